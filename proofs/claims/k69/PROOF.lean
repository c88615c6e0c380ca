import PyProof.Rows.All
import Wide.All
import OpenK.AllK
import Wide.FinOn
import KE.KStateDown
import Lean
import HandS.ForMost
import HandS.Ends
import HandS.Defaults
import HandS.Head0
import HandS.Head1
import HandS.Head2
import HandS.HeadEnd
import HandS.HeadHook1
import HandS.HeadHook2
import HandS.HeadHook3
import HandS.FStr
import KE.KCallOwn
import HandS.TupAny
import HandS.TupMul
import HandS.Zip
import HandS.Walk
import HandS.Style
import HandS.IsInst
import HandS.StrMore
import HandS.IterVal
import OpenK.KTop
import HandS.Strs
import KE.DataEq
import HandS.ExcOwn
import PyProof.Rows.StrPartPair
import PyProof.StrLawsRepr
import HandS.Wide
import HandS.Flow
import HandS.Codes
import HandS.TupLe
import HandS.FStrTup
import HandS.RaiseMore
import PyProof.ReprRoads
import HandS.OwnEq
import HandS.Text
import PyProof.FitsReplace
import PyProof.StrLawsFirst
import HandS.ForExc
import HandS.ExcInit
import HandS.ExcField
import HandS.ExcIs
import HandS.CallSlots
import HandS.MakeKw
import HandS.MakeKwOnly
import KE.KExcIs
import KE.KTryMore
import KE.IntTextText
import KE.IntTextLaws
import HandS.TryOnly
import PyProof.Rows.StrFirst
import HandS.Call
import KE.KUnpackStar
import HandS.Deep
import PyProof.StrLawsAffix
import PyProof.StrLawsChain
import HandS.DictEq
import HandS.TupLen
import PyProof.StrOps2
import PyProof.NeKinds
import PyProof.AutoSeq1
import KE.SortKeyHeap
import HandS.SortKw
import HandS.More
import HandS.Conv
import HandS.ExcValue
import KE.KDictSum
import KE.SortData
import HandS.Exc
import HandS.Comp
import KE.GoesRaise
import PyProof.ReprUnder
import HandS.Base
import PySem.Challenge.RW_takesworks_k69_texts_of_anything
set_option Elab.async false
set_option linter.all false
set_option maxRecDepth 100000
set_option maxHeartbeats 4000000
/-! A law's head by the top's run alone: defs told by names, and any list of truths about what the top has left. -/
namespace Xhd
open PySem PySem.Spec PyProof.Rows L2 He
abbrev Ft := PySem.W.Frag → Bool
abbrev AlZ : Type := Bool × List FnV × List FnW × List (Option (List (Option (Str × Int))))
/-- a table of the top: its name, its keys in order -/
abbrev Tb : Type := Str × List Str
def fnB (K : PySem.W.Frag) (d : FnD) : Bool := (Fa.code d.at_ d.qual).ok K && PySem.W.keepIn K (.ref (fAd K d.at_))
def obsZ (fn : List FnD) (df : List DefD) (ts : List Tb) (ex : List Ft) (K : PySem.W.Frag) : AlZ := ((ex.all fun f => f K) && ((fn.all fun d => fnB K d) && df.all fun d => d.ok K), fn.map fun d => fnObs K d.at_, df.map fun d => fnW K d.at_, ts.map fun t => dicW K (ga K t.1))
def valZ (fn : List FnD) (df : List DefD) (ts : List Tb) (w : World) : AlZ := (true, fn.map FnD.val, df.map DefD.val, ts.map fun t => some (keysIn w.params t.2))
def SaysZ (fn : List FnD) (df : List DefD) (ts : List Tb) (ex : List Ft) (w : World) (K : PySem.W.Frag) : Prop := obsZ fn df ts ex K = valZ fn df ts w
/-- what is looked at: the module's names, the machine's own, what the top has made -/
def asZ (lo cnt : Nat) : List Addr := mainGlobals :: cStatics :: List.range' lo cnt
def obsZG (lo cnt : Nat) (fn : List FnD) (df : List DefD) (ts : List Tb) (ex : List Ft) (g : Addr → Option Obj) : AlZ := obsZ fn df ts ex (frG g (asZ lo cnt))
def hookZ (lo cnt : Nat) (fn : List FnD) (df : List DefD) (ts : List Tb) (ex : List Ft) : PySem.W.Hook where
  α := AlZ
  obs := fun s => obsZG lo cnt fn df ts ex s.heap.get?
  val := fun w => valZ fn df ts w
  says := fun w h => ∃ K : PySem.W.Frag, K.In h ∧ SaysZ fn df ts ex w K
  of := fun _ _ e => ⟨_, frG_in, e⟩
  keeps := fun _ _ _ ⟨K, hK, c⟩ k => ⟨K, PySem.W.Frag.In.keeps hK k, c⟩
theorem obsZG_eq {lo cnt : Nat} {fn : List FnD} {df : List DefD} {ts : List Tb} {ex : List Ft} {g : Addr → Option Obj} {s : Shared} (h : ∀ a, g a = s.heap.get? a) : obsZG lo cnt fn df ts ex g = (hookZ lo cnt fn df ts ex).obs s := by
  have e : g = s.heap.get? := funext h
  rw [e] <;> rfl
section
variable {fn : List FnD} {df : List DefD} {ts : List Tb} {ex : List Ft} {w : World} {K : PySem.W.Frag}
theorem SaysZ.b (c : SaysZ fn df ts ex w K) : (ex.all fun f => f K) = true ∧ (fn.all fun d => fnB K d) = true ∧ (df.all fun d => d.ok K) = true := by
  have h := congrArg (fun z : AlZ => z.1) c
  obtain ⟨h1, h2⟩ := ba (show ((ex.all fun f => f K) && ((fn.all fun d => fnB K d) && df.all fun d => d.ok K)) = true from h)
  obtain ⟨h3, h4⟩ := ba h2
  exact ⟨h1, h3, h4⟩
theorem SaysZ.x (c : SaysZ fn df ts ex w K) (i : Nat) {f : Ft} (h : ex[i]? = some f) : f K = true := List.all_eq_true.mp c.b.1 f (List.mem_of_getElem? h)
theorem SaysZ.f (c : SaysZ fn df ts ex w K) (i : Nat) {x q : Str} {st : Stmt} {p : Str × Option Str} (h : fn[i]? = some ⟨p, x, q, defArgs st, defBody st, defScope st⟩) : ∃ fd, L2.Fun K x q st (fAd K p) fd := by
  obtain ⟨k1, k2⟩ := ba (List.all_eq_true.mp c.b.2.1 _ (List.mem_of_getElem? h))
  have e : fn.map (fun d => fnObs K d.at_) = fn.map FnD.val := congrArg (fun z : AlZ => z.2.1) c
  have e2 : (fn.map fun d => fnObs K d.at_)[i]? = (fn.map FnD.val)[i]? := by rw [e]
  rw [List.getElem?_map, List.getElem?_map, h] at e2
  obtain ⟨oc, od, osl, kV, doc, pm, an, cdv, ct, lk, cc⟩ := fn_ok (Option.some.inj e2) k1
  exact ⟨_, fun_mk lk cc k2⟩
theorem SaysZ.d (c : SaysZ fn df ts ex w K) (i : Nat) {d : DefD} (h : df[i]? = some d) : ∃ fd, FunD K d.name d.qual d.params d.body d.scope (d.dvs K) (d.kws K) (fAd K d.at_) fd := by
  have e : df.map (fun d => fnW K d.at_) = df.map DefD.val := congrArg (fun z : AlZ => z.2.2.1) c
  have e2 : (df.map fun d => fnW K d.at_)[i]? = (df.map DefD.val)[i]? := by rw [e]
  rw [List.getElem?_map, List.getElem?_map, h] at e2
  exact DefD.funD (Option.some.inj e2) (List.all_eq_true.mp c.b.2.2 d (List.mem_of_getElem? h))
theorem SaysZ.t (c : SaysZ fn df ts ex w K) (i : Nat) {t : Tb} (h : ts[i]? = some t) : ∃ es n, KDict K w (ga K t.1) es n := by
  have e : ts.map (fun t => dicW K (ga K t.1)) = ts.map fun t => some (keysIn w.params t.2) := congrArg (fun z : AlZ => z.2.2.2) c
  have e2 : (ts.map fun t => dicW K (ga K t.1))[i]? = (ts.map fun t => some (keysIn w.params t.2))[i]? := by rw [e]
  rw [List.getElem?_map, List.getElem?_map, h] at e2
  exact dicW_ok (Option.some.inj e2)
end
/-- an object of a built-in kind without a dict of its own -/
def ocB (a : Addr) (T : String) (K : PySem.W.Frag) : Bool := match K.lookup a with
  | some o => decide (o.cls = .type T) && o.dict.isNone
  | none => false
theorem ocB_ok {a : Addr} {T : String} {K : PySem.W.Frag} (h : ocB a T K = true) : ∃ o, K.lookup a = some o ∧ o.cls = .type T ∧ o.dict = none := by
  unfold ocB at h
  cases e : K.lookup a with
  | none => rw [e] at h; cases h
  | some o =>
    rw [e] at h
    obtain ⟨h1, h2⟩ := ba h
    exact ⟨o, rfl, of_decide_eq_true h1, Option.isNone_iff_eq_none.mp h2⟩
/-- the value of a table at a key -/
theorem tab_at {K : PySem.W.Frag} {w : World} {a : Addr} {es : Array DictEntry} {n : Nat} (D : KDict K w a es n) {kvs : List (Str × Dv)} (h : valsB K a kvs = true) (i : Nat) {q : Str × Dv} (hq : kvs[i]? = some q) :
    ∃ u, findBy Value.isStrOf es q.1 = some u ∧ RelV (q.2.v K) u := by
  obtain ⟨u, e, r⟩ := valsB_ok h (List.mem_of_getElem? hq)
  refine ⟨u, ?_, r⟩
  unfold PySem.W.nsIn at e
  rw [D.at_] at e
  have fe : (fun e : DictEntry => Value.isStrOf q.1 e.key) = fun e : DictEntry => e.key.isStr q.1 := funext fun e => by cases e.key <;> rfl
  unfold findBy
  rw [fe, ← Array.find?_toList]
  simp only at e
  cases y : es.toList.find? (fun e => e.key.isStr q.1) with
  | some d =>
    rw [y] at e
    have e2 : some (some d.val) = some (some u) := e
    have e3 : d.val = u := Option.some.inj (Option.some.inj e2)
    show some d.val = some u
    rw [e3]
  | none =>
    rw [y] at e
    by_cases z : es.toList.any (fun e => e.refKey) = true
    · have e2 : (if (es.toList.any fun e => e.refKey) = true then (none : Option (Option Value)) else some none) = some (some u) := e
      rw [if_pos z] at e2
      cases e2
    · have e2 : (if (es.toList.any fun e => e.refKey) = true then (none : Option (Option Value)) else some none) = some (some u) := e
      rw [if_neg z] at e2
      cases e2
/-! own exception classes -/
def xclsB (p : List Value → Bool) (newId : String) (C : Addr) (K : PySem.W.Frag) : Bool := match K.lookup C with
  | some ⟨.type "type", _, .cls cd, sl⟩ => (match cd.mro, sl.toList with
    | .ref C' :: bm, [_, _, _, _, some (.builtin n), _] => C' == C && (n == newId && (!cd.hasDel && (cd.hasDict && p bm)))
    | _, _ => false)
  | _ => false
def XCls (p : List Value → Bool) (newId : String) (C : Addr) (K : PySem.W.Frag) : Prop := ∃ nm q N bs bm sn sub ab col dd k0 k1 k2 k3 k5, K.lookup C = some (excClassObj nm q C N bs bm true sn sub ab col dd k0 k1 k2 k3 k5 newId) ∧ p bm = true
theorem xcls_of {p : List Value → Bool} {newId : String} {C : Addr} {K : PySem.W.Frag} (q : xclsB p newId C K = true) : XCls p newId C K := by
  unfold xclsB at q
  split at q
  · rename_i dd cd sl ho
    split at q
    · rename_i C' bm k0 k1 k2 k3 n k5 hm hs
      simp only [Bool.and_eq_true, beq_iff_eq, Bool.not_eq_true'] at q
      obtain ⟨rfl, rfl, hdel, hdct, hp⟩ := q
      obtain ⟨nm, bs, mro, ns, qn, hd, sn, sub, ab, col, del⟩ := cd
      dsimp only at hm hdel hdct
      subst hm hdel hdct
      have hsl : sl = #[k0, k1, k2, k3, some (.builtin n), k5] := by
        obtain ⟨l⟩ := sl
        simp only at hs
        rw [hs]
      subst hsl
      exact ⟨nm, _, ns, bs, bm, sn, sub, ab, col, dd, k0, k1, k2, k3, k5, ho, hp⟩
    · cases q
  · cases q
/-- what a class itself, asked for m, gives -/
def fcB (C : Addr) (m : Str) (id : String) (K : PySem.W.Frag) : Bool := match PySem.W.findCls K (.ref C) (.type "type") m with
  | some (.val (.builtin i)) => decide (i = id)
  | _ => false
theorem fc_of {C : Addr} {m : Str} {id : String} {K : PySem.W.Frag} (q : fcB C m id K = true) : PySem.W.findCls K (.ref C) (.type "type") m = some (.val (.builtin id)) := by
  unfold fcB at q
  split at q
  · rename_i i e
    rw [e, of_decide_eq_true q]
  · cases q
end Xhd
set_option Elab.async false
set_option linter.all false
set_option maxRecDepth 100000
set_option maxHeartbeats 4000000
set_option pp.maxSteps 400
set_option pp.deepTerms false
namespace K69
open PySem PySem.Spec PyProof.Rows L2
def top (i : Nat) : Stmt := PySem.Challenge.pw_takesworks_k69_texts_of_anything.main.body.getD i (.Pass ⟨0, 0, 0, 0⟩)
abbrev sWall : Stmt := top 0
abbrev sNoTextInit : Stmt := inClass (top 10) 0
abbrev sIsWhole : Stmt := top 22
abbrev sIsWithin : Stmt := top 23
abbrev sIsTextOf : Stmt := top 24
abbrev sIsSmallText : Stmt := top 25
abbrev sIsWord : Stmt := top 26
abbrev sAreRising : Stmt := top 27
abbrev sIsLeap : Stmt := top 33
abbrev sDaysIn : Stmt := top 34
abbrev sMakesDay : Stmt := top 35
abbrev sDayInit : Stmt := inClass (top 36) 0
abbrev sDayEq : Stmt := inClass (top 36) 1
abbrev sDayStr : Stmt := inClass (top 36) 2
abbrev sDayRepr : Stmt := inClass (top 36) 3
abbrev sPartsOf : Stmt := top 37
abbrev sBeyondMinutes : Stmt := top 40
abbrev sLengthInit : Stmt := inClass (top 41) 0
abbrev sLengthEq : Stmt := inClass (top 41) 1
abbrev sLengthStr : Stmt := inClass (top 41) 2
abbrev sLengthRepr : Stmt := inClass (top 41) 3
abbrev sIsTongue : Stmt := top 47
abbrev sIsNameText : Stmt := top 48
abbrev sIsName : Stmt := top 49
abbrev sIsKey : Stmt := top 56
abbrev sIsCode : Stmt := top 57
abbrev sArePlayers : Stmt := top 58
abbrev sIsEntry : Stmt := top 59
abbrev sKeyOf : Stmt := top 60
abbrev sFieldOf : Stmt := top 61
abbrev sShowName : Stmt := top 65
abbrev sShowKey : Stmt := top 66
abbrev sShowKeys : Stmt := top 67
abbrev sShowTold : Stmt := top 68
abbrev sShowEntry : Stmt := top 69
abbrev sAreRows : Stmt := top 72
abbrev sDiscLen : Stmt := inClass (top 73) 1
abbrev sDiscEq : Stmt := inClass (top 73) 2
abbrev sDiscStr : Stmt := inClass (top 73) 3
abbrev sDiscRepr : Stmt := inClass (top 73) 4
abbrev sPlaceIn : Stmt := top 75
abbrev sEmptySheet : Stmt := top 76
abbrev sOnlyOne : Stmt := top 77
abbrev sEntryOn : Stmt := top 78
abbrev sListingInit : Stmt := inClass (top 79) 0
abbrev sListingLen : Stmt := inClass (top 79) 1
abbrev sListingEq : Stmt := inClass (top 79) 2
abbrev sListingStr : Stmt := inClass (top 79) 3
abbrev sListingRepr : Stmt := inClass (top 79) 4
abbrev sListingPut : Stmt := inClass (top 79) 5
abbrev sListingTold : Stmt := inClass (top 79) 6
abbrev sListingJoined : Stmt := inClass (top 79) 7
abbrev sListingEntries : Stmt := inClass (top 79) 8
abbrev sListingClashes : Stmt := inClass (top 79) 9
abbrev sAreFigures : Stmt := top 86
abbrev sNumberIn : Stmt := top 87
abbrev sDayIn : Stmt := top 88
abbrev sLengthIn : Stmt := top 89
abbrev sNameIn : Stmt := top 90
abbrev sKeyIn : Stmt := top 91
abbrev sAllIn : Stmt := top 92
abbrev sKeysIn : Stmt := top 93
abbrev sNamesIn : Stmt := top 94
abbrev sCodeIn : Stmt := top 95
abbrev sToldIn : Stmt := top 97
abbrev sEntryIn : Stmt := top 98
abbrev sDiscIn : Stmt := top 99
abbrev sWorkRowIn : Stmt := top 100
abbrev sMayStand : Stmt := top 101
abbrev sWorkOf : Stmt := top 102
abbrev sSoWritten : Stmt := top 103
abbrev sReadDay : Stmt := top 104
abbrev sReadLength : Stmt := top 105
abbrev sReadName : Stmt := top 106
abbrev sReadEntry : Stmt := top 107
abbrev sReadDisc : Stmt := top 108
abbrev sReadWork : Stmt := top 109
abbrev sReadListing : Stmt := top 110
abbrev sHand : Stmt := top 112
abbrev sTake : Stmt := top 113
abbrev sPick : Stmt := top 114
abbrev sAlone : Stmt := top 115
abbrev sRead : Stmt := top 116
abbrev sAsked : Stmt := top 117
abbrev sThings : Stmt := top 118
abbrev sRight : Stmt := top 119
abbrev sLaw : Stmt := top 120
theorem scWall : FnScope ["k"] ["k"] (defScope sWall) := ⟨rfl, rfl, rfl, by decide +kernel, rfl, by decide +kernel, by decide +kernel⟩
open He Xhd
def x0 : Ft := fun K => decide (PySem.W.nsIn K mainGlobals "Day" = some (some (.ref (ga K "Day"))))
def x1 : Ft := fun K => decide (PySem.W.nsIn K mainGlobals "Length" = some (some (.ref (ga K "Length"))))
def x2 : Ft := fun K => decide (PySem.W.nsIn K mainGlobals "Listing" = some (some (.ref (ga K "Listing"))))
def x3 : Ft := fun K => decide (PySem.W.nsIn K mainGlobals "NotSuch" = some (some (.ref (ga K "NotSuch"))))
def x4 : Ft := fun K => decide (PySem.W.nsIn K mainGlobals "Lost" = some (some (.ref (ga K "Lost"))))
def x5 : Ft := fun K => decide (PySem.W.nsIn K mainGlobals "Taken" = some (some (.ref (ga K "Taken"))))
def x6 : Ft := fun K => decide (PySem.W.nsIn K mainGlobals "NoCustom" = some (some (.ref (ga K "NoCustom"))))
def x7 : Ft := fun K => decide (PySem.W.nsIn K mainGlobals "NoDay" = some (some (.ref (ga K "NoDay"))))
def x8 : Ft := fun K => decide (PySem.W.nsIn K mainGlobals "NoDisc" = some (some (.ref (ga K "NoDisc"))))
def x9 : Ft := fun K => decide (PySem.W.nsIn K mainGlobals "NoEntry" = some (some (.ref (ga K "NoEntry"))))
def x10 : Ft := fun K => decide (PySem.W.nsIn K mainGlobals "NoKey" = some (some (.ref (ga K "NoKey"))))
def x11 : Ft := fun K => decide (PySem.W.nsIn K mainGlobals "NoLength" = some (some (.ref (ga K "NoLength"))))
def x12 : Ft := fun K => decide (PySem.W.nsIn K mainGlobals "NoLine" = some (some (.ref (ga K "NoLine"))))
def x13 : Ft := fun K => decide (PySem.W.nsIn K mainGlobals "NoName" = some (some (.ref (ga K "NoName"))))
def x14 : Ft := fun K => decide (PySem.W.nsIn K mainGlobals "NoNumber" = some (some (.ref (ga K "NoNumber"))))
def x15 : Ft := fun K => decide (PySem.W.nsIn K mainGlobals "NoPath" = some (some (.ref (ga K "NoPath"))))
def x16 : Ft := fun K => decide (PySem.W.nsIn K mainGlobals "Same" = some (some (.ref (ga K "Same"))))
def x17 : Ft := fun K => decide (PySem.W.nsIn K mainGlobals "Struck" = some (some (.ref (ga K "Struck"))))
def x18 : Ft := fun K => decide (PySem.W.nsIn K mainGlobals "Twice" = some (some (.ref (ga K "Twice"))))
def x19 : Ft := fun K => decide (PySem.W.nsIn K mainGlobals "NoText" = some (some (.ref (ga K "NoText"))))
def x20 : Ft := fun K => decide (PySem.W.findIn K (.ref (ga K "NoText")) "__init__" = some (some (.ref (ma K (ga K "NoText") "__init__"))))
def x21 : Ft := fun K => decide (PySem.W.isFn K (.ref (ma K (ga K "NoText") "__init__")) = true)
def x22 : Ft := fun K => decide (PySem.W.findIn K (.ref (ga K "Day")) "__init__" = some (some (.ref (ma K (ga K "Day") "__init__"))))
def x23 : Ft := fun K => decide (PySem.W.isFn K (.ref (ma K (ga K "Day") "__init__")) = true)
def x24 : Ft := fun K => decide (PySem.W.findIn K (.ref (ga K "Day")) "__str__" = some (some (.ref (ma K (ga K "Day") "__str__"))))
def x25 : Ft := fun K => decide (PySem.W.isFn K (.ref (ma K (ga K "Day") "__str__")) = true)
def x26 : Ft := fun K => decide (PySem.W.findIn K (.ref (ga K "Day")) "__repr__" = some (some (.ref (ma K (ga K "Day") "__repr__"))))
def x27 : Ft := fun K => decide (PySem.W.isFn K (.ref (ma K (ga K "Day") "__repr__")) = true)
def x28 : Ft := fun K => decide (PySem.W.findIn K (.ref (ga K "Length")) "__init__" = some (some (.ref (ma K (ga K "Length") "__init__"))))
def x29 : Ft := fun K => decide (PySem.W.isFn K (.ref (ma K (ga K "Length") "__init__")) = true)
def x30 : Ft := fun K => decide (PySem.W.findIn K (.ref (ga K "Length")) "__str__" = some (some (.ref (ma K (ga K "Length") "__str__"))))
def x31 : Ft := fun K => decide (PySem.W.isFn K (.ref (ma K (ga K "Length") "__str__")) = true)
def x32 : Ft := fun K => decide (PySem.W.findIn K (.ref (ga K "Length")) "__repr__" = some (some (.ref (ma K (ga K "Length") "__repr__"))))
def x33 : Ft := fun K => decide (PySem.W.isFn K (.ref (ma K (ga K "Length") "__repr__")) = true)
def x34 : Ft := fun K => decide (PySem.W.findIn K (.ref (ga K "Listing")) "__init__" = some (some (.ref (ma K (ga K "Listing") "__init__"))))
def x35 : Ft := fun K => decide (PySem.W.isFn K (.ref (ma K (ga K "Listing") "__init__")) = true)
def x36 : Ft := fun K => decide (PySem.W.findIn K (.ref (ga K "Listing")) "__len__" = some (some (.ref (ma K (ga K "Listing") "__len__"))))
def x37 : Ft := fun K => decide (PySem.W.isFn K (.ref (ma K (ga K "Listing") "__len__")) = true)
def x38 : Ft := fun K => decide (PySem.W.findIn K (.ref (ga K "Listing")) "__eq__" = some (some (.ref (ma K (ga K "Listing") "__eq__"))))
def x39 : Ft := fun K => decide (PySem.W.isFn K (.ref (ma K (ga K "Listing") "__eq__")) = true)
def x40 : Ft := fun K => decide (PySem.W.findIn K (.ref (ga K "Listing")) "entries" = some (some (.ref (ma K (ga K "Listing") "entries"))))
def x41 : Ft := fun K => decide (PySem.W.isFn K (.ref (ma K (ga K "Listing") "entries")) = true)
def x42 : Ft := fun K => decide (PySem.W.nsIn K mainGlobals "is_whole" = some (some (.ref (ga K "is_whole"))))
def x43 : Ft := fun K => decide (PySem.W.nsIn K mainGlobals "is_within" = some (some (.ref (ga K "is_within"))))
def x44 : Ft := fun K => decide (PySem.W.nsIn K mainGlobals "is_leap" = some (some (.ref (ga K "is_leap"))))
def x45 : Ft := fun K => decide (PySem.W.nsIn K mainGlobals "days_in" = some (some (.ref (ga K "days_in"))))
def x46 : Ft := fun K => decide (PySem.W.nsIn K mainGlobals "makes_day" = some (some (.ref (ga K "makes_day"))))
def x47 : Ft := fun K => decide (PySem.W.nsIn K mainGlobals "is_text_of" = some (some (.ref (ga K "is_text_of"))))
def x48 : Ft := fun K => decide (PySem.W.nsIn K mainGlobals "is_small_text" = some (some (.ref (ga K "is_small_text"))))
def x49 : Ft := fun K => decide (PySem.W.nsIn K mainGlobals "is_tongue" = some (some (.ref (ga K "is_tongue"))))
def x50 : Ft := fun K => decide (PySem.W.nsIn K mainGlobals "is_name_text" = some (some (.ref (ga K "is_name_text"))))
def x51 : Ft := fun K => decide (PySem.W.nsIn K mainGlobals "is_name" = some (some (.ref (ga K "is_name"))))
def x52 : Ft := fun K => decide (PySem.W.nsIn K mainGlobals "beyond_minutes" = some (some (.ref (ga K "beyond_minutes"))))
def x53 : Ft := fun K => decide (PySem.W.nsIn K mainGlobals "are_figures" = some (some (.ref (ga K "are_figures"))))
def x54 : Ft := fun K => decide (PySem.W.nsIn K mainGlobals "number_in" = some (some (.ref (ga K "number_in"))))
def x55 : Ft := fun K => decide (PySem.W.nsIn K mainGlobals "day_in" = some (some (.ref (ga K "day_in"))))
def x56 : Ft := fun K => decide (PySem.W.nsIn K mainGlobals "length_in" = some (some (.ref (ga K "length_in"))))
def x57 : Ft := fun K => decide (PySem.W.nsIn K mainGlobals "name_in" = some (some (.ref (ga K "name_in"))))
def x58 : Ft := fun K => decide (PySem.W.nsIn K mainGlobals "is_word" = some (some (.ref (ga K "is_word"))))
def x59 : Ft := fun K => decide (PySem.W.nsIn K mainGlobals "is_key" = some (some (.ref (ga K "is_key"))))
def x60 : Ft := fun K => decide (PySem.W.nsIn K mainGlobals "key_in" = some (some (.ref (ga K "key_in"))))
def x61 : Ft := fun K => decide (PySem.W.nsIn K mainGlobals "entry_in" = some (some (.ref (ga K "entry_in"))))
def x62 : Ft := fun K => decide (PySem.W.nsIn K mainGlobals "all_in" = some (some (.ref (ga K "all_in"))))
def x63 : Ft := fun K => decide (PySem.W.nsIn K mainGlobals "keys_in" = some (some (.ref (ga K "keys_in"))))
def x64 : Ft := fun K => decide (PySem.W.nsIn K mainGlobals "disc_in" = some (some (.ref (ga K "disc_in"))))
def x65 : Ft := fun K => decide (PySem.W.nsIn K mainGlobals "work_row_in" = some (some (.ref (ga K "work_row_in"))))
def x66 : Ft := fun K => decide (PySem.W.nsIn K mainGlobals "so_written" = some (some (.ref (ga K "so_written"))))
def x67 : Ft := fun K => decide (PySem.W.nsIn K mainGlobals "read_day" = some (some (.ref (ga K "read_day"))))
def x68 : Ft := fun K => decide (PySem.W.nsIn K mainGlobals "read_length" = some (some (.ref (ga K "read_length"))))
def x69 : Ft := fun K => decide (PySem.W.nsIn K mainGlobals "read_name" = some (some (.ref (ga K "read_name"))))
def x70 : Ft := fun K => decide (PySem.W.nsIn K mainGlobals "read_entry" = some (some (.ref (ga K "read_entry"))))
def x71 : Ft := fun K => decide (PySem.W.nsIn K mainGlobals "read_disc" = some (some (.ref (ga K "read_disc"))))
def x72 : Ft := fun K => decide (PySem.W.nsIn K mainGlobals "read_work" = some (some (.ref (ga K "read_work"))))
def x73 : Ft := fun K => decide (PySem.W.nsIn K mainGlobals "read_listing" = some (some (.ref (ga K "read_listing"))))
def x74 : Ft := fun K => decide (PySem.W.nsIn K mainGlobals "_law_hand" = some (some (.ref (ga K "_law_hand"))))
def x75 : Ft := fun K => decide (PySem.W.nsIn K mainGlobals "_law_take" = some (some (.ref (ga K "_law_take"))))
def x76 : Ft := fun K => decide (PySem.W.nsIn K mainGlobals "_law_pick" = some (some (.ref (ga K "_law_pick"))))
def x77 : Ft := fun K => decide (PySem.W.nsIn K mainGlobals "_law_things" = some (some (.ref (ga K "_law_things"))))
def x78 : Ft := fun K => decide (PySem.W.nsIn K mainGlobals "_law_alone" = some (some (.ref (ga K "_law_alone"))))
def x79 : Ft := fun K => decide (PySem.W.nsIn K mainGlobals "_law_asked" = some (some (.ref (ga K "_law_asked"))))
def x80 : Ft := fun K => decide (PySem.W.nsIn K mainGlobals "_law_read" = some (some (.ref (ga K "_law_read"))))
def x81 : Ft := fun K => decide (PySem.W.nsIn K mainGlobals "_law_right" = some (some (.ref (ga K "_law_right"))))
def x82 : Ft := fun K => decide (PySem.W.nsIn K mainGlobals "law" = some (some (.ref (ga K "law"))))
def x83 : Ft := fun K => (Fa.int "KEY_PARTS" (2)).ok K
def x84 : Ft := fun K => (Fa.int "LONGEST_WORD" (8)).ok K
def x85 : Ft := fun K => (Fa.int "LONGEST_CODE" (12)).ok K
def x86 : Ft := fun K => (Fa.int "MOST_PLAYERS" (8)).ok K
def x87 : Ft := fun K => (Fa.int "LAST_YEAR" (9999)).ok K
def x88 : Ft := fun K => (Fa.int "MONTHS" (12)).ok K
def x89 : Ft := fun K => (Fa.int "FEBRUARY" (2)).ok K
def x90 : Ft := fun K => (Fa.int "MOST_SECONDS" (359999)).ok K
def x91 : Ft := fun K => (Fa.int "SHORTEST_TONGUE" (2)).ok K
def x92 : Ft := fun K => (Fa.int "LONGEST_TONGUE" (3)).ok K
def x93 : Ft := fun K => (Fa.int "LONGEST_TEXT" (40)).ok K
def x94 : Ft := fun K => (Fa.int "MOST_FIGURES" (30)).ok K
def x95 : Ft := fun K => (Fa.int "DAY_PARTS" (3)).ok K
def x96 : Ft := fun K => (Fa.int "YEAR_FIGURES" (4)).ok K
def x97 : Ft := fun K => (Fa.str "SMALL_LETTERS" "abcdefghijklmnopqrstuvwxyz").ok K
def x98 : Ft := fun K => (Fa.str "TEXT_SIGNS" "abcdefghijklmnopqrstuvwxyzABCDEFGHIJKLMNOPQRSTUVWXYZ0123456789 '-.").ok K
def x99 : Ft := fun K => (Fa.str "FIGURES" "0123456789").ok K
def x100 : Ft := fun K => (Fa.str "CODE_SIGNS" "ABCDEFGHIJKLMNOPQRSTUVWXYZ0123456789").ok K
def x101 : Ft := fun K => (Fa.str "INDENT" "  ").ok K
def x102 : Ft := fun K => decide (PySem.W.nsIn K mainGlobals "MONTH_DAYS" = some (some (.ref (ga K "MONTH_DAYS"))))
def x103 : Ft := fun K => tupB K "MONTH_DAYS" [.int 31, .int 28, .int 31, .int 30, .int 31, .int 30, .int 31, .int 31, .int 30, .int 31, .int 30, .int 31]
def x104 : Ft := fun K => decide (PySem.W.nsIn K mainGlobals "FIELDS" = some (some (.ref (ga K "FIELDS"))))
def x105 : Ft := fun K => tupB K "FIELDS" [.str "code", .str "title", .str "players", .str "day", .str "length"]
def x106 : Ft := fun K => decide (PySem.W.isClsIn K (ga K "NotSuch") = true)
def x107 : Ft := fun K => decide (PySem.W.typeIn K (.ref (ga K "NotSuch")) = some (.type "type"))
def x108 : Ft := fun K => decide (PySem.W.subIn K (.ref (ga K "NoText")) (.ref (ga K "NotSuch")) = some true)
def x109 : Ft := fun K => decide (PySem.W.isClsIn K (ga K "Lost") = true)
def x110 : Ft := fun K => decide (PySem.W.typeIn K (.ref (ga K "Lost")) = some (.type "type"))
def x111 : Ft := fun K => decide (PySem.W.subIn K (.ref (ga K "NoText")) (.ref (ga K "Lost")) = some false)
def x112 : Ft := fun K => decide (PySem.W.isClsIn K (ga K "Taken") = true)
def x113 : Ft := fun K => decide (PySem.W.typeIn K (.ref (ga K "Taken")) = some (.type "type"))
def x114 : Ft := fun K => decide (PySem.W.subIn K (.ref (ga K "NoText")) (.ref (ga K "Taken")) = some false)
def x115 : Ft := fun K => decide (PySem.W.isClsIn K (ga K "NoCustom") = true)
def x116 : Ft := fun K => decide (PySem.W.typeIn K (.ref (ga K "NoCustom")) = some (.type "type"))
def x117 : Ft := fun K => decide (PySem.W.subIn K (.ref (ga K "NoText")) (.ref (ga K "NoCustom")) = some false)
def x118 : Ft := fun K => decide (PySem.W.isClsIn K (ga K "NoDay") = true)
def x119 : Ft := fun K => decide (PySem.W.typeIn K (.ref (ga K "NoDay")) = some (.type "type"))
def x120 : Ft := fun K => decide (PySem.W.subIn K (.ref (ga K "NoText")) (.ref (ga K "NoDay")) = some false)
def x121 : Ft := fun K => decide (PySem.W.isClsIn K (ga K "NoDisc") = true)
def x122 : Ft := fun K => decide (PySem.W.typeIn K (.ref (ga K "NoDisc")) = some (.type "type"))
def x123 : Ft := fun K => decide (PySem.W.subIn K (.ref (ga K "NoText")) (.ref (ga K "NoDisc")) = some false)
def x124 : Ft := fun K => decide (PySem.W.isClsIn K (ga K "NoEntry") = true)
def x125 : Ft := fun K => decide (PySem.W.typeIn K (.ref (ga K "NoEntry")) = some (.type "type"))
def x126 : Ft := fun K => decide (PySem.W.subIn K (.ref (ga K "NoText")) (.ref (ga K "NoEntry")) = some false)
def x127 : Ft := fun K => decide (PySem.W.isClsIn K (ga K "NoKey") = true)
def x128 : Ft := fun K => decide (PySem.W.typeIn K (.ref (ga K "NoKey")) = some (.type "type"))
def x129 : Ft := fun K => decide (PySem.W.subIn K (.ref (ga K "NoText")) (.ref (ga K "NoKey")) = some false)
def x130 : Ft := fun K => decide (PySem.W.isClsIn K (ga K "NoLength") = true)
def x131 : Ft := fun K => decide (PySem.W.typeIn K (.ref (ga K "NoLength")) = some (.type "type"))
def x132 : Ft := fun K => decide (PySem.W.subIn K (.ref (ga K "NoText")) (.ref (ga K "NoLength")) = some false)
def x133 : Ft := fun K => decide (PySem.W.isClsIn K (ga K "NoLine") = true)
def x134 : Ft := fun K => decide (PySem.W.typeIn K (.ref (ga K "NoLine")) = some (.type "type"))
def x135 : Ft := fun K => decide (PySem.W.subIn K (.ref (ga K "NoText")) (.ref (ga K "NoLine")) = some false)
def x136 : Ft := fun K => decide (PySem.W.isClsIn K (ga K "NoName") = true)
def x137 : Ft := fun K => decide (PySem.W.typeIn K (.ref (ga K "NoName")) = some (.type "type"))
def x138 : Ft := fun K => decide (PySem.W.subIn K (.ref (ga K "NoText")) (.ref (ga K "NoName")) = some false)
def x139 : Ft := fun K => decide (PySem.W.isClsIn K (ga K "NoNumber") = true)
def x140 : Ft := fun K => decide (PySem.W.typeIn K (.ref (ga K "NoNumber")) = some (.type "type"))
def x141 : Ft := fun K => decide (PySem.W.subIn K (.ref (ga K "NoText")) (.ref (ga K "NoNumber")) = some false)
def x142 : Ft := fun K => decide (PySem.W.isClsIn K (ga K "NoPath") = true)
def x143 : Ft := fun K => decide (PySem.W.typeIn K (.ref (ga K "NoPath")) = some (.type "type"))
def x144 : Ft := fun K => decide (PySem.W.subIn K (.ref (ga K "NoText")) (.ref (ga K "NoPath")) = some false)
def x145 : Ft := fun K => decide (PySem.W.isClsIn K (ga K "Same") = true)
def x146 : Ft := fun K => decide (PySem.W.typeIn K (.ref (ga K "Same")) = some (.type "type"))
def x147 : Ft := fun K => decide (PySem.W.subIn K (.ref (ga K "NoText")) (.ref (ga K "Same")) = some false)
def x148 : Ft := fun K => decide (PySem.W.isClsIn K (ga K "Struck") = true)
def x149 : Ft := fun K => decide (PySem.W.typeIn K (.ref (ga K "Struck")) = some (.type "type"))
def x150 : Ft := fun K => decide (PySem.W.subIn K (.ref (ga K "NoText")) (.ref (ga K "Struck")) = some false)
def x151 : Ft := fun K => decide (PySem.W.isClsIn K (ga K "Twice") = true)
def x152 : Ft := fun K => decide (PySem.W.typeIn K (.ref (ga K "Twice")) = some (.type "type"))
def x153 : Ft := fun K => decide (PySem.W.subIn K (.ref (ga K "NoText")) (.ref (ga K "Twice")) = some false)
def x154 : Ft := fun K => decide (PySem.W.isClsIn K (ga K "NoText") = true)
def x155 : Ft := fun K => decide (PySem.W.typeIn K (.ref (ga K "NoText")) = some (.type "type"))
def x156 : Ft := fun K => decide (PySem.W.subIn K (.ref (ga K "NoText")) (.ref (ga K "NoText")) = some true)
def x157 : Ft := fun K => decide (PySem.W.subIn K (.ref (ga K "NotSuch")) (.type "BaseException") = some true)
def x158 : Ft := fun K => decide (PySem.W.subIn K (.ref (ga K "Lost")) (.type "BaseException") = some true)
def x159 : Ft := fun K => decide (PySem.W.subIn K (.ref (ga K "Taken")) (.type "BaseException") = some true)
def x160 : Ft := fun K => decide (PySem.W.subIn K (.ref (ga K "NoText")) (.type "ValueError") = some true)
def x161 : Ft := fun K => decide (PySem.W.findIn K (.ref (ga K "NoText")) "__setattr__" = some (some (.builtin "object.__setattr__")))
def x162 : Ft := fun K => decide (PySem.W.subIn K (.ref (ga K "NoText")) (.type "BaseException") = some true)
def x163 : Ft := fun K => decide (PySem.W.keepIn K (.ref (ga K "NoText")) = true)
def x164 : Ft := fun K => decide (PySem.W.findIn K (.ref (ga K "NoText")) "__getattribute__" = some (some (.builtin "BaseException.__getattribute__")))
def x165 : Ft := fun K => decide (PySem.W.findIn K (.ref (ga K "NoText")) "__getattr__" = some none)
def x166 : Ft := fun K => decide (PySem.W.hasDictIn K (ga K "NoText") = true)
def x167 : Ft := fun K => decide (PySem.W.findIn K (.ref (ga K "NoText")) "__class__" = some (some (.builtin "object.__class__")))
def x168 : Ft := fun K => decide (PySem.W.mroIn K (ga K "NoText") (.type "object") = some true)
def x169 : Ft := fun K => decide (PySem.W.findIn K (.ref (ga K "NoText")) "row" = some none)
def x170 : Ft := fun K => decide (PySem.W.findIn K (.ref (ga K "NoText")) "wanted" = some none)
def x171 : Ft := fun K => decide (PySem.W.typeIn K (.ref (ma K (ga K "NoText") "__init__")) = some (.type "function"))
def x172 : Ft := fun K => decide (PySem.W.readsIn K (ga K "NotSuch") (.type "type") = true)
def x173 : Ft := fun K => decide (PySem.W.specialIn K (.ref (ga K "NotSuch")) "__getattribute__" = some (some (.builtin "type.__getattribute__")))
def x174 : Ft := fun K => decide (PySem.W.plainGet K (ga K "Day") Str.empty = true)
def x175 : Ft := fun K => decide (PySem.W.hasDictIn K (ga K "Day") = true)
def x176 : Ft := fun K => decide (PySem.W.plainOver K (ga K "Day") = true)
def x177 : Ft := fun K => decide (PySem.W.findIn K (.ref (ga K "Day")) "__setattr__" = some (some (.builtin "object.__setattr__")))
def x178 : Ft := fun K => decide (PySem.W.makesIn K (ga K "Day") = true)
def x179 : Ft := fun K => decide (PySem.W.keepIn K (.ref (ga K "Day")) = true)
def x180 : Ft := fun K => decide (PySem.W.findIn K (.ref (ga K "Day")) "__class__" = some (some (.builtin "object.__class__")))
def x181 : Ft := fun K => decide (PySem.W.mroIn K (ga K "Day") (.type "object") = some true)
def x182 : Ft := fun K => decide (PySem.W.plainGet K (ga K "Length") Str.empty = true)
def x183 : Ft := fun K => decide (PySem.W.hasDictIn K (ga K "Length") = true)
def x184 : Ft := fun K => decide (PySem.W.plainOver K (ga K "Length") = true)
def x185 : Ft := fun K => decide (PySem.W.findIn K (.ref (ga K "Length")) "__setattr__" = some (some (.builtin "object.__setattr__")))
def x186 : Ft := fun K => decide (PySem.W.makesIn K (ga K "Length") = true)
def x187 : Ft := fun K => decide (PySem.W.keepIn K (.ref (ga K "Length")) = true)
def x188 : Ft := fun K => decide (PySem.W.findIn K (.ref (ga K "Length")) "__class__" = some (some (.builtin "object.__class__")))
def x189 : Ft := fun K => decide (PySem.W.mroIn K (ga K "Length") (.type "object") = some true)
def x190 : Ft := fun K => decide (PySem.W.plainGet K (ga K "Listing") Str.empty = true)
def x191 : Ft := fun K => decide (PySem.W.hasDictIn K (ga K "Listing") = true)
def x192 : Ft := fun K => decide (PySem.W.plainOver K (ga K "Listing") = true)
def x193 : Ft := fun K => decide (PySem.W.findIn K (.ref (ga K "Listing")) "__setattr__" = some (some (.builtin "object.__setattr__")))
def x194 : Ft := fun K => decide (PySem.W.makesIn K (ga K "Listing") = true)
def x195 : Ft := fun K => decide (PySem.W.keepIn K (.ref (ga K "Listing")) = true)
def x196 : Ft := fun K => decide (PySem.W.findIn K (.ref (ga K "Listing")) "__class__" = some (some (.builtin "object.__class__")))
def x197 : Ft := fun K => decide (PySem.W.mroIn K (ga K "Listing") (.type "object") = some true)
def x198 : Ft := fun K => decide (PySem.W.findIn K (.ref (ga K "Day")) "year" = some none)
def x199 : Ft := fun K => decide (PySem.W.findIn K (.ref (ga K "Day")) "month" = some none)
def x200 : Ft := fun K => decide (PySem.W.findIn K (.ref (ga K "Day")) "day" = some none)
def x201 : Ft := fun K => decide (PySem.W.findIn K (.ref (ga K "Length")) "seconds" = some none)
def x202 : Ft := fun K => decide (PySem.W.findIn K (.ref (ga K "Listing")) "sheets" = some none)
def x203 : Ft := fun K => decide (PySem.W.specialIn K (.builtin "object.__class__") "__get__" = some (some (.builtin "getset_descriptor.__get__")))
def x204 : Ft := fun K => decide (PySem.W.takesIn K (.builtin "object.__class__") = some true)
def x205 : Ft := fun K => decide (PySem.W.subIn K (.ref (ga K "Day")) (.type "str") = some false)
def x206 : Ft := fun K => decide (PySem.W.subIn K (.ref (ga K "Length")) (.type "str") = some false)
def x207 : Ft := fun K => xclsB PySem.HandSPX.refsVE "ValueError.__new__" (ga K "NoText") K
def x208 : Ft := fun K => fcB (ga K "NotSuch") "__init__" "ValueError.__init__" K
def x209 : Ft := fun K => ocB (ga K "FIELDS") "tuple" K
def x210 : Ft := fun K => decide (PySem.W.nsIn K mainGlobals "isinstance" = some none)
def x211 : Ft := fun K => decide (PySem.W.nsIn K mainGlobals "int" = some none)
def x212 : Ft := fun K => decide (PySem.W.nsIn K mainGlobals "bool" = some none)
def x213 : Ft := fun K => decide (PySem.W.nsIn K mainGlobals "str" = some none)
def x214 : Ft := fun K => decide (PySem.W.nsIn K mainGlobals "tuple" = some none)
def x215 : Ft := fun K => decide (PySem.W.nsIn K mainGlobals "list" = some none)
def x216 : Ft := fun K => decide (PySem.W.nsIn K mainGlobals "len" = some none)
def x217 : Ft := fun K => decide (PySem.W.nsIn K mainGlobals "all" = some none)
def x218 : Ft := fun K => decide (PySem.W.nsIn K mainGlobals "any" = some none)
def x219 : Ft := fun K => decide (PySem.W.nsIn K mainGlobals "abs" = some none)
def x220 : Ft := fun K => decide (PySem.W.nsIn K mainGlobals "range" = some none)
def x221 : Ft := fun K => decide (PySem.W.nsIn K mainGlobals "repr" = some none)
def x222 : Ft := fun K => decide (PySem.W.nsIn K mainGlobals "max" = some none)
def x223 : Ft := fun K => decide (PySem.W.nsIn K mainGlobals "min" = some none)
def x224 : Ft := fun K => decide (PySem.W.nsIn K mainGlobals "sorted" = some none)
def x225 : Ft := fun K => decide (PySem.W.nsIn K mainGlobals "zip" = some none)
def x226 : Ft := fun K => decide (PySem.W.nsIn K mainGlobals "enumerate" = some none)
def x227 : Ft := fun K => decide (PySem.W.nsIn K mainGlobals "ValueError" = some none)
def x228 : Ft := fun K => decide (PySem.W.nsIn K mainGlobals "divmod" = some none)
def exs : List Ft := [x0, x1, x2, x3, x4, x5, x6, x7, x8, x9, x10, x11, x12, x13, x14, x15, x16, x17, x18, x19, x20, x21, x22, x23, x24, x25, x26, x27, x28, x29, x30, x31, x32, x33, x34, x35, x36, x37, x38, x39, x40, x41, x42, x43, x44, x45, x46, x47, x48, x49, x50, x51, x52, x53, x54, x55, x56, x57, x58, x59, x60, x61, x62, x63, x64, x65, x66, x67, x68, x69, x70, x71, x72, x73, x74, x75, x76, x77, x78, x79, x80, x81, x82, x83, x84, x85, x86, x87, x88, x89, x90, x91, x92, x93, x94, x95, x96, x97, x98, x99, x100, x101, x102, x103, x104, x105, x106, x107, x108, x109, x110, x111, x112, x113, x114, x115, x116, x117, x118, x119, x120, x121, x122, x123, x124, x125, x126, x127, x128, x129, x130, x131, x132, x133, x134, x135, x136, x137, x138, x139, x140, x141, x142, x143, x144, x145, x146, x147, x148, x149, x150, x151, x152, x153, x154, x155, x156, x157, x158, x159, x160, x161, x162, x163, x164, x165, x166, x167, x168, x169, x170, x171, x172, x173, x174, x175, x176, x177, x178, x179, x180, x181, x182, x183, x184, x185, x186, x187, x188, x189, x190, x191, x192, x193, x194, x195, x196, x197, x198, x199, x200, x201, x202, x203, x204, x205, x206, x207, x208, x209, x210, x211, x212, x213, x214, x215, x216, x217, x218, x219, x220, x221, x222, x223, x224, x225, x226, x227, x228]
def fns : List FnD := [⟨("NoText", some "__init__"), "__init__", "NoText.__init__", defArgs sNoTextInit, defBody sNoTextInit, defScope sNoTextInit⟩,
  ⟨("Day", some "__str__"), "__str__", "Day.__str__", defArgs sDayStr, defBody sDayStr, defScope sDayStr⟩,
  ⟨("Day", some "__repr__"), "__repr__", "Day.__repr__", defArgs sDayRepr, defBody sDayRepr, defScope sDayRepr⟩,
  ⟨("Length", some "__init__"), "__init__", "Length.__init__", defArgs sLengthInit, defBody sLengthInit, defScope sLengthInit⟩,
  ⟨("Length", some "__str__"), "__str__", "Length.__str__", defArgs sLengthStr, defBody sLengthStr, defScope sLengthStr⟩,
  ⟨("Length", some "__repr__"), "__repr__", "Length.__repr__", defArgs sLengthRepr, defBody sLengthRepr, defScope sLengthRepr⟩,
  ⟨("Listing", some "__len__"), "__len__", "Listing.__len__", defArgs sListingLen, defBody sListingLen, defScope sListingLen⟩,
  ⟨("Listing", some "__eq__"), "__eq__", "Listing.__eq__", defArgs sListingEq, defBody sListingEq, defScope sListingEq⟩,
  ⟨("Listing", some "entries"), "entries", "Listing.entries", defArgs sListingEntries, defBody sListingEntries, defScope sListingEntries⟩,
  ⟨("is_whole", none), "is_whole", "is_whole", defArgs sIsWhole, defBody sIsWhole, defScope sIsWhole⟩,
  ⟨("is_within", none), "is_within", "is_within", defArgs sIsWithin, defBody sIsWithin, defScope sIsWithin⟩,
  ⟨("is_leap", none), "is_leap", "is_leap", defArgs sIsLeap, defBody sIsLeap, defScope sIsLeap⟩,
  ⟨("days_in", none), "days_in", "days_in", defArgs sDaysIn, defBody sDaysIn, defScope sDaysIn⟩,
  ⟨("makes_day", none), "makes_day", "makes_day", defArgs sMakesDay, defBody sMakesDay, defScope sMakesDay⟩,
  ⟨("is_text_of", none), "is_text_of", "is_text_of", defArgs sIsTextOf, defBody sIsTextOf, defScope sIsTextOf⟩,
  ⟨("is_small_text", none), "is_small_text", "is_small_text", defArgs sIsSmallText, defBody sIsSmallText, defScope sIsSmallText⟩,
  ⟨("is_tongue", none), "is_tongue", "is_tongue", defArgs sIsTongue, defBody sIsTongue, defScope sIsTongue⟩,
  ⟨("is_name_text", none), "is_name_text", "is_name_text", defArgs sIsNameText, defBody sIsNameText, defScope sIsNameText⟩,
  ⟨("is_name", none), "is_name", "is_name", defArgs sIsName, defBody sIsName, defScope sIsName⟩,
  ⟨("beyond_minutes", none), "beyond_minutes", "beyond_minutes", defArgs sBeyondMinutes, defBody sBeyondMinutes, defScope sBeyondMinutes⟩,
  ⟨("are_figures", none), "are_figures", "are_figures", defArgs sAreFigures, defBody sAreFigures, defScope sAreFigures⟩,
  ⟨("number_in", none), "number_in", "number_in", defArgs sNumberIn, defBody sNumberIn, defScope sNumberIn⟩,
  ⟨("day_in", none), "day_in", "day_in", defArgs sDayIn, defBody sDayIn, defScope sDayIn⟩,
  ⟨("length_in", none), "length_in", "length_in", defArgs sLengthIn, defBody sLengthIn, defScope sLengthIn⟩,
  ⟨("name_in", none), "name_in", "name_in", defArgs sNameIn, defBody sNameIn, defScope sNameIn⟩,
  ⟨("is_word", none), "is_word", "is_word", defArgs sIsWord, defBody sIsWord, defScope sIsWord⟩,
  ⟨("is_key", none), "is_key", "is_key", defArgs sIsKey, defBody sIsKey, defScope sIsKey⟩,
  ⟨("key_in", none), "key_in", "key_in", defArgs sKeyIn, defBody sKeyIn, defScope sKeyIn⟩,
  ⟨("entry_in", none), "entry_in", "entry_in", defArgs sEntryIn, defBody sEntryIn, defScope sEntryIn⟩,
  ⟨("all_in", none), "all_in", "all_in", defArgs sAllIn, defBody sAllIn, defScope sAllIn⟩,
  ⟨("keys_in", none), "keys_in", "keys_in", defArgs sKeysIn, defBody sKeysIn, defScope sKeysIn⟩,
  ⟨("disc_in", none), "disc_in", "disc_in", defArgs sDiscIn, defBody sDiscIn, defScope sDiscIn⟩,
  ⟨("work_row_in", none), "work_row_in", "work_row_in", defArgs sWorkRowIn, defBody sWorkRowIn, defScope sWorkRowIn⟩,
  ⟨("read_day", none), "read_day", "read_day", defArgs sReadDay, defBody sReadDay, defScope sReadDay⟩,
  ⟨("read_length", none), "read_length", "read_length", defArgs sReadLength, defBody sReadLength, defScope sReadLength⟩,
  ⟨("read_name", none), "read_name", "read_name", defArgs sReadName, defBody sReadName, defScope sReadName⟩,
  ⟨("read_entry", none), "read_entry", "read_entry", defArgs sReadEntry, defBody sReadEntry, defScope sReadEntry⟩,
  ⟨("read_disc", none), "read_disc", "read_disc", defArgs sReadDisc, defBody sReadDisc, defScope sReadDisc⟩,
  ⟨("read_work", none), "read_work", "read_work", defArgs sReadWork, defBody sReadWork, defScope sReadWork⟩,
  ⟨("read_listing", none), "read_listing", "read_listing", defArgs sReadListing, defBody sReadListing, defScope sReadListing⟩,
  ⟨("_law_hand", none), "_law_hand", "_law_hand", defArgs sHand, defBody sHand, defScope sHand⟩,
  ⟨("_law_take", none), "_law_take", "_law_take", defArgs sTake, defBody sTake, defScope sTake⟩,
  ⟨("_law_pick", none), "_law_pick", "_law_pick", defArgs sPick, defBody sPick, defScope sPick⟩,
  ⟨("_law_things", none), "_law_things", "_law_things", defArgs sThings, defBody sThings, defScope sThings⟩,
  ⟨("_law_alone", none), "_law_alone", "_law_alone", defArgs sAlone, defBody sAlone, defScope sAlone⟩,
  ⟨("_law_asked", none), "_law_asked", "_law_asked", defArgs sAsked, defBody sAsked, defScope sAsked⟩,
  ⟨("_law_read", none), "_law_read", "_law_read", defArgs sRead, defBody sRead, defScope sRead⟩,
  ⟨("_law_right", none), "_law_right", "_law_right", defArgs sRight, defBody sRight, defScope sRight⟩,
  ⟨("law", none), "law", "law", defArgs sLaw, defBody sLaw, defScope sLaw⟩]
def dfs : List DefD := [⟨("Day", some "__init__"), "__init__", "Day.__init__", defArgs sDayInit, defBody sDayInit, defScope sDayInit, [.non, .non], []⟩,
  ⟨("Listing", some "__init__"), "__init__", "Listing.__init__", defArgs sListingInit, defBody sListingInit, defScope sListingInit, [.non], []⟩,
  ⟨("so_written", none), "so_written", "so_written", defArgs sSoWritten, defBody sSoWritten, defScope sSoWritten, [.int 0], []⟩]
def tbs : List Tb := []
def names0 : List Str := ["_wall", "NotSuch", "Lost", "Taken", "NoDay", "NoLength", "NoName", "NoEntry", "Same", "NoText", "NoLine", "NoCustom", "NoDisc", "NoNumber", "Struck", "NoKey", "NoPath", "Twice", "SMALL_LETTERS", "LONGEST_WORD", "is_whole", "is_within", "is_text_of", "is_small_text", "is_word", "are_rising", "LAST_YEAR", "MONTHS", "FEBRUARY", "MONTH_DAYS"]
def names1 : List Str := ["is_leap", "days_in", "makes_day", "Day", "parts_of", "MOST_SECONDS", "beyond_minutes", "Length", "SHORTEST_TONGUE", "LONGEST_TONGUE", "LONGEST_TEXT", "TEXT_SIGNS", "is_tongue", "is_name_text", "is_name", "FIELDS", "KEY_PARTS", "LONGEST_CODE", "CODE_SIGNS", "MOST_PLAYERS", "is_key", "is_code", "are_players", "is_entry", "key_of", "field_of", "FIELD_WORDS", "INDENT", "show_name", "show_key"]
def names2 : List Str := ["show_keys", "show_told", "show_entry", "MOST_ROWS", "are_rows", "Disc", "place_in", "empty_sheet", "only_one", "entry_on", "Listing", "DEEPEST", "FIGURES", "MOST_FIGURES", "DAY_PARTS", "YEAR_FIGURES", "are_figures", "number_in", "day_in", "length_in", "name_in", "key_in", "all_in", "keys_in", "names_in", "code_in", "FIELD_READERS", "told_in", "entry_in", "disc_in"]
def names3 : List Str := ["work_row_in", "may_stand", "work_of", "so_written", "read_day", "read_length", "read_name", "read_entry", "read_disc", "read_work", "read_listing", "_law_hand", "_law_take", "_law_pick", "_law_alone", "_law_read", "_law_asked", "_law_things", "_law_right"]
def names : List Str := names0 ++ names1 ++ names2 ++ names3
abbrev R : PySem.W.OpenRow := PySem.W.OpenLaw.row PySem.Challenge.rw_takesworks_k69_texts_of_anything
abbrev hk : PySem.W.Hook := hookZ 11 1000 fns dfs tbs exs
def ob (s : PySem.W.SharedT) : AlZ := obsZG 11 1000 fns dfs tbs exs (HandSHeadRun.getT s)
theorem ob_eq (s : PySem.W.SharedT) : ob s = hk.obs s.abs := obsZG_eq (HandSHeadRun.getT_eq s)
theorem runfalse (w : World) : HandSHeadRun.RunEq R (PySem.W.view R.prog [120]) hk ob 40000 names (w.withFollow "special-get-raises" false) := by
  intro os
  kernel_rfl
theorem runtrue (w : World) : HandSHeadRun.RunEq R (PySem.W.view R.prog [120]) hk ob 40000 names (w.withFollow "special-get-raises" true) := by
  intro os
  kernel_rfl
theorem run (w : World) : HandSHeadRun.RunEq R (PySem.W.view R.prog [120]) hk ob 40000 names w := PySem.W.byRow2 "special-get-raises" (P := fun w => HandSHeadRun.RunEq R (PySem.W.view R.prog [120]) hk ob 40000 names w) runfalse runtrue w
end K69
set_option Elab.async false
set_option linter.all false
set_option maxRecDepth 100000
set_option maxHeartbeats 4000000
namespace K69
open PySem PySem.Spec PyProof.Rows L2
/-! ## defs that show things: promises where no showing is under way -/
structure Gn (P : Program) (w : World) (K : PySem.W.Frag) (mg : Str → Option Value) (base : Heap) (k : Nat) (f : Addr) (fd : FuncData) (ps : List Str) (sp : Sp) : Prop where
  many : ∀ vs H Q E, sp vs H Q E → vs.length = ps.length
  go : ∀ (A : Around) (outer : List Env) (s : Shared) (H : Hp) (args : Args) (us : List Value) (vs : List V) (Q : VK) (E : XK), A.guards = some [] → Room k A →
    Env0 P w K mg base A outer s H → BindsTo s fd args (ps.zip us) → Vals vs us → sp vs H Q E → codeAny (model P w) A (.call (.ref f) args) (CR CX0 outer P w H s Q E) s
section
variable {P : Program} {w : World} {K : PySem.W.Frag} {mg : Str → Option Value} {base : Heap}
theorem gn_body {x qual : Str} {st : Stmt} {f : Addr} {fd : FuncData} {N ps : List Str} {k : Nat} {sp : Sp} (F : Fun K x qual st f fd) (S : FnScope N ps (defScope st))
    (many : ∀ vs H Q E, sp vs H Q E → vs.length = ps.length)
    (body : ∀ (cdv : Value) (A : Around) (outer : List Env) (s : Shared) (H : Hp) (vs : List V) (Q : VK) (E : XK), A.guards = some [] →
      Room k (A.deeper (envOfC qual (defScope st) s.heap.objs.size f cdv)) → sp vs H Q E →
      ∃ t, PSs (cxOf CX0 P w K mg base N qual (defScope st) f cdv A outer s H E).nox (defBody st) t ∧ t { nx := fun _ H' => Q .non H', rt := Q } (start N vs) H) :
    Gn P w K mg base (k + 1) f fd ps sp := by
  obtain ⟨oc, od, kV, doc, pm, an, cdv, ct, osl, rfl, lk, hcd⟩ := F.ex
  refine ⟨many, fun A outer s H args us vs Q E hg room en bd rv hsp => ?_⟩
  have kin : K.In s.heap := en.mod.kin.keeps fun b o q => (en.bs b o q).1
  refine Att.call_fn kin (en.mod.nolimit.keeps fun b o q => (en.bs b o q).1) lk hcd room.depth bd ?_ (fun s1 inc => ?_) S.co S.gen S.kind
  · refine List.all_eq_true.mpr fun y hy => ?_
    rcases S.par y.1 (List.of_mem_zip (a := y.1) (b := y.2) hy).1 with q | q
    · rw [q]; rfl
    · rw [q]; rfl
  · obtain ⟨t, ht, hq⟩ := body cdv A outer s H vs Q E hg (room.deeper _) hsp
    have I := inv_start (CX := CX0) (E := E) S room.hd en (many _ _ _ _ hsp) rv inc
    refine wpAny_mono (ht.nox.run [] s1 _ H _ I hq) (fun fl s' hs => ?_) fun _ _ z => z
    cases fl with
    | ret u =>
      obtain ⟨v, _, H', J, r, q⟩ := hs
      exact ⟨v, H', J.os, J.bare, J.base, J.hok, r, q⟩
    | next =>
      obtain ⟨_, H', J, q⟩ := hs
      exact ⟨.non, H', J.os, J.bare, J.base, J.hok, rfl, q⟩
    | brk =>
      obtain ⟨_, _, _, z⟩ := hs
      exact False.elim z
    | cont =>
      obtain ⟨_, _, _, z⟩ := hs
      exact False.elim z
end
section
variable {X : Cx} {k : Nat} {f : Addr} {fd : FuncData} {ps : List Str} {sp : Sp} {x : Str} {p pos : Pos} {e : Expr} {es : List Expr} {t : TA}
theorem pe_gn (F : Gn X.prog X.w X.K X.mg X.base k f fd ps sp) (quiet : X.A.guards = some []) (room : Room k X.A) (gl : Gl X x) (mgf : X.mg x = some (.ref f))
    (kp : PySem.W.keepIn X.K (.ref f) = true) (bd : Binds X.K fd ps []) (ha : PA X (e :: es) t) (hdb : (x == ("__debug__" : Str)) = false := by decide)
    (he : starEach (e :: es) X.env = (false, eval e X.env) :: starEach es X.env := by rfl) (hpl : (backTo pos (starEach es X.env)).any (·.1) = false := by rfl) :
    PE X (.Call (.Name x p) (e :: es) [] pos) (tCall sp [] E0 t) := by
  refine ⟨fun pins s σ H Q I h => wpAny_Call_Name_kw (ld_glob I gl mgf ?_ hdb)⟩
  refine PySem.W.callWith_K (h₀ := X.base) I.ok.mod.kin kp ?_ he hpl
  refine thn (ha.run pos pins s σ H _ I h) fun us s1 z => ?_
  obtain ⟨vs, H1, I1, rv, q⟩ := z
  have q' : sp vs H1 Q E0 := by
    have z := q
    rw [List.append_nil] at z
    exact z
  have many : us.length = ps.length := rv.length.symm.trans (F.many _ _ _ _ q')
  have b1 := bd s1 us I1.kIn (by rw [List.append_nil]; exact many)
  rw [List.append_nil] at b1
  refine ⟨I1.kIn, wpAny_call (codeAny_mono (F.go X.A X.stack s1 H1 ⟨us, []⟩ us vs Q E0 quiet room I1.env0 b1 rv q') fun r s' hr => ?_)⟩
  cases r with
  | error z => exact False.elim hr
  | ok fl =>
    cases fl with
    | ret u => exact I1.after hr
    | next => exact False.elim hr
    | brk => exact False.elim hr
    | cont => exact False.elim hr
/-- repr of data at any depth -/
theorem cr_reprD (quiet : X.A.guards = some []) (room : Room k X.A) : CallR X (.builtin "repr") (fun xs H Q => ∃ (a : Addr) (d : PyData), xs = [.ref a] ∧ Dp X.K H (.ref a) d ∧ d.showable = true ∧ d.hasDict = false ∧
    d.depth ≤ 50 ∧ d.shown.length ≤ sizeLine ∧ Q (.str d.shown) H) := by
  intro pins s σ H xs us Q I r h
  obtain ⟨a, d, rfl, hd, hs, hn, hp, hz, q⟩ := h
  obtain ⟨u, rfl, rx⟩ := vals1 r
  obtain ⟨as, rd⟩ := Dp.reads I d _ u hd rx
  cases rx
  have hu := room.units
  exact repr_of_reads' rd hs (fun z => absurd (hn.symm.trans z) Bool.false_ne_true) quiet (by omega) (fun _ _ z => z) (fun h' u tk kept => ⟨.str d.shown, H, I.kept kept, ⟨u, rfl⟩, q⟩) hz
theorem cr_repr_bl : CallR X (.builtin "repr") (fun xs H Q => ∃ b : Bool, xs = [.bl b] ∧ Q (.str (if b then "True" else "False")) H) := by
  intro pins s σ H xs us Q I r h
  obtain ⟨b, rfl, q⟩ := h
  obtain ⟨u, rfl, rx⟩ := vals1 r
  cases rx
  exact PySem.P.repr_of_bool ⟨.str _, H, I.tok _, ⟨_, rfl⟩, q⟩
end
end K69
set_option Elab.async false
set_option linter.all false
set_option maxRecDepth 100000
set_option maxHeartbeats 4000000
set_option pp.maxSteps 400
set_option pp.deepTerms false
namespace K69
open PySem PySem.Spec PyProof.Rows L2
/-! ## == by a class's own __eq__, either way about -/
/-- what the written part says of the class -/
structure OwnC (K : PySem.W.Frag) (C f : Addr) : Prop where
  eq : PySem.W.findIn K (.ref C) "__eq__" = some (some (.ref f))
  fn : PySem.W.isFn K (.ref f) = true
  ne : PySem.W.findIn K (.ref C) "__ne__" = some (some (.builtin "object.__ne__"))
  mo : PySem.W.mroIn K C (.type "object") = some true
  sInt : PySem.W.subIn K (.ref C) (.type "int") = some false
  sStr : PySem.W.subIn K (.ref C) (.type "str") = some false
  sNon : PySem.W.subIn K (.ref C) (.type "NoneType") = some false
  sTup : PySem.W.subIn K (.ref C) (.type "tuple") = some false
  sLst : PySem.W.subIn K (.ref C) (.type "list") = some false
section
variable {X : Cx} {pins : List (Addr × Obj)} {σ : L2.St} {H : Hp} {n : Nat} {f C : Addr} {fd : FuncData} {ps : List Str} {sp : Sp}
/-- the end of such a comparison: a truth -/
def BP (X : Cx) (pins : List (Addr × Obj)) (σ : L2.St) (Q : Bool → Hp → Prop) (u : Value) (s' : Shared) : Prop := ∃ b H', u = .bool b ∧ Inv X pins σ H' s' ∧ Q b H'
theorem own_call {A : Around} {s : Shared} {a : Addr} {y : V} {v : Value} {Q : Bool → Hp → Prop} {E : Value → Shared → Prop} (fr : A.frames = some X.stack) (room : Room n A) (F : FnOk X.prog X.w X.K X.mg X.base CX0 n f fd ps sp) (bd : Binds X.K fd ps [])
    (I : Inv X pins σ H s) (rv : RelV y v) (hsp : sp [.ref a, y] H (fun z H' => ∃ b, z = .bl b ∧ Q b H') E0) : wpAny (model X.prog X.w) A (call (.ref f) [.ref a, v]) (BP X pins σ Q) E s := by
  have en : Env0 X.prog X.w X.K X.mg X.base A X.stack s H := by
    have z := I.env0
    exact ⟨fr, z.mod, z.bs, z.bsz, z.funs, z.frf, z.hok, z.bare⟩
  have hl : [V.ref a, y].length = ps.length := F.len _ _ _ _ hsp
  have b1 := bd s [.ref a, v] I.kIn (by simpa using hl)
  rw [List.append_nil] at b1
  refine wpAny_call (codeAny_mono (F.run A X.stack s H ⟨[.ref a, v], []⟩ [.ref a, v] [.ref a, y] _ E0 room en b1 (.cons rfl (.cons rv .nil)) hsp) fun r s2 hr => ?_)
  match r, hr with
  | .error z, hr => exact False.elim hr
  | .ok .next, hr => exact False.elim hr
  | .ok .brk, hr => exact False.elim hr
  | .ok .cont, hr => exact False.elim hr
  | .ok (.ret u), hr =>
    obtain ⟨z, H2, I2, rz, b, rfl, q⟩ := I.after hr
    cases rz
    exact ⟨b, H2, rfl, I2, q⟩
theorem rc_L {A : Around} {s : Shared} {a dx : Addr} {fs : List (Str × V)} {y : V} {v tb : Value} {Q : Bool → Hp → Prop} {E : Value → Shared → Prop} (W : OwnC X.K C f) (fr : A.frames = some X.stack) (room : Room n A)
    (F : FnOk X.prog X.w X.K X.mg X.base CX0 n f fd ps sp) (bd : Binds X.K fd ps []) (I : Inv X pins σ H s) (ha : H a = some (.ins C dx fs)) (rv : RelV y v) (hb : PySem.W.Looks (model X.prog X.w) s.heap (typeOf v) tb)
    (nf : PySem.W.notFirst X.K C tb = true) (hsp : sp [.ref a, y] H (fun z H' => ∃ b, z = .bl b ∧ Q b H') E0) : wpAny (model X.prog X.w) A (richCompare .Eq (.ref a) v) (BP X pins σ Q) E s := by
  obtain ⟨mA, J, _⟩ := ins_get I.hok ha
  obtain ⟨od, J, _⟩ := J.look
  obtain ⟨m, hF⟩ := I.fr
  refine PySem.W.cmp_K (op := .Eq) room.units0 hF I.ok.mod.kin J hb nf W.eq W.fn (wpAny_mono (own_call fr room F bd I rv hsp) (fun u s' hu => ?_) fun _ _ z => z)
  obtain ⟨b, H', rfl, I', q⟩ := hu
  exact ⟨b, H', rfl, I', q⟩
/-- a builtin's own == has no answer, then the class's own is asked -/
theorem rc_R {A : Around} {s : Shared} {a dx : Addr} {fs : List (Str × V)} {y : V} {v : Value} {T id : String} {Q : Bool → Hp → Prop} {E : Value → Shared → Prop} (W : OwnC X.K C f) (fr : A.frames = some X.stack) (room : Room n A)
    (F : FnOk X.prog X.w X.K X.mg X.base CX0 n f fd ps sp) (bd : Binds X.K fd ps []) (I : Inv X pins σ H s) (ha : H a = some (.ins C dx fs)) (rv : RelV y v) (hT : s.TypeIs v T) (one : oneThing? .Eq v (.ref a) = none)
    (sub : PySem.W.subIn X.K (.ref C) (.type T) = some false) (slot : Slot T "__eq__" id) (dec : ∀ E', wpAny (model X.prog X.w) A (call (.builtin id) [v, .ref a]) (fun u s' => u = .notImplemented ∧ s' = s) E' s)
    (hsp : sp [.ref a, y] H (fun z H' => ∃ b, z = .bl b ∧ Q b H') E0) : wpAny (model X.prog X.w) A (richCompare .Eq v (.ref a)) (BP X pins σ Q) E s := by
  obtain ⟨mA, J, _⟩ := ins_get I.hok ha
  obtain ⟨od, J, _⟩ := J.look
  have two : wpAny (model X.prog X.w) A (tryCompare (.ref a) "__eq__" v) (fun r s' => ∃ u, r = some u ∧ BP X pins σ Q u s') E s := by
    unfold tryCompare
    refine wpAny_bind (PySem.W.ifBound_K I.kIn J W.eq W.fn (wpAny_mono (own_call fr room F bd I rv hsp) (fun u s' hu => ?_) fun _ _ z => z))
    obtain ⟨b, H', rfl, I', q⟩ := hu
    exact wpAny_pure ⟨_, rfl, b, H', rfl, I', q⟩
  have first : wpAny (model X.prog X.w) A (tryCompare v "__eq__" (.ref a)) (fun r s' => r = none ∧ s' = s) E s :=
    wpAny_tryCompare_declines hT slot (wpAny_mono (dec E) (fun u s' z => ⟨z.1, rfl, z.2⟩) fun _ _ z => z)
  simp only [richCompare, cmpInfo_Eq, one]
  refine wpAny_holding (wpAny_bind (wpAny_cRoomFor room.units0 ?_))
  refine wpAny_bind (wpAny_typeOf hT (wpAny_bind (J.type.here ?_)))
  split
  · refine wpAny_bind ((PySem.W.looks_subIn I.kIn sub).here ?_)
    simp only [Bool.false_eq_true, if_false, Bool.not_false, if_true]
    refine wpAny_bind (m := tryCompare v _ (.ref a)) (wpAny_mono first (fun r s1 z => ?_) fun _ _ e => e)
    obtain ⟨z1, z2⟩ := z
    subst z1
    subst z2
    refine wpAny_bind (m := tryCompare (.ref a) _ v) (wpAny_mono two (fun r s2 z => ?_) fun _ _ e => e)
    obtain ⟨u, rfl, q⟩ := z
    exact wpAny_pure q
  · rename_i q
    exact absurd (by simp) q
end
end K69
set_option Elab.async false
set_option linter.all false
set_option maxRecDepth 100000
set_option maxHeartbeats 4000000
set_option pp.maxSteps 400
set_option pp.deepTerms false
namespace K69
open PySem PySem.Spec PyProof.Rows L2
section
variable {prog : Program} {w : World} {A : Around} {E : Value → Shared → Prop} {s : Shared} {a C dx : Addr} {K : PySem.W.Frag} {ox : Obj} {od : Option Obj}
theorem dec_none : wpAny (model prog w) A (call (.builtin "NoneType.__eq__") [.none, .ref a]) (fun u s' => u = .notImplemented ∧ s' = s) E s := by
  refine GQ.call_here F.slot_NoneType_eq (T := "NoneType") rfl F.entry_NoneType_eq (F.args_NoneType_eq_2 _ _) ?_
  wp_walk
  exact ⟨rfl, rfl⟩
theorem dec_int {i : Int} {t : Tok} (ho : s.heap.get? a = some (PySem.W.instObj C dx)) : wpAny (model prog w) A (call (.builtin "int.__eq__") [.int i t, .ref a]) (fun u s' => u = .notImplemented ∧ s' = s) E s := by
  refine GQ.call_here F.slot_int_eq (typeIs_int _ _ _) F.entry_int_eq (F.args_int_eq_2 _ _) ?_
  wp_walk using wpAny_load ho
  exact ⟨rfl, rfl⟩
theorem dec_str {i : Str} {t : Tok} (ho : s.heap.get? a = some (PySem.W.instObj C dx)) : wpAny (model prog w) A (call (.builtin "str.__eq__") [.str i t, .ref a]) (fun u s' => u = .notImplemented ∧ s' = s) E s := by
  refine GQ.call_here F.slot_str_eq (typeIs_str _ _ _) F.entry_str_eq (F.args_str_eq_2 _ _) ?_
  wp_walk using wpAny_load ho
  exact ⟨rfl, rfl⟩
theorem isi_no {T : String} {Q : Bool → Shared → Prop} (J : PySem.W.InstAt s.heap a ox C od) (kin : K.In s.heap) (sub : PySem.W.subIn K (.ref C) (.type T) = some false) (h : Q false s) : wpAny (model prog w) A (isInstance (.ref a) (.type T)) Q E s := by
  unfold isInstance
  exact wpAny_bind (J.type.here ((PySem.W.looks_subIn kin sub).here h))
theorem dec_tup {t : Addr} (hT : s.TypeIs (.ref t) "tuple") (J : PySem.W.InstAt s.heap a ox C od) (kin : K.In s.heap) (sub : PySem.W.subIn K (.ref C) (.type "tuple") = some false) :
    wpAny (model prog w) A (call (.builtin "tuple.__eq__") [.ref t, .ref a]) (fun u s' => u = .notImplemented ∧ s' = s) E s := by
  refine GQ.call_here F.slot_tuple_eq hT F.entry_tuple_eq (F.args_tuple_eq_2 _ _) ?_
  wp_walk using isi_no J kin sub
  exact ⟨rfl, rfl⟩
theorem dec_lst {t : Addr} (hT : s.TypeIs (.ref t) "list") (J : PySem.W.InstAt s.heap a ox C od) (kin : K.In s.heap) (sub : PySem.W.subIn K (.ref C) (.type "list") = some false) :
    wpAny (model prog w) A (call (.builtin "list.__eq__") [.ref t, .ref a]) (fun u s' => u = .notImplemented ∧ s' = s) E s := by
  refine GQ.call_here F.slot_list_eq hT F.entry_list_eq (F.args_list_eq_2 _ _) ?_
  wp_walk using isi_no J kin sub
  exact ⟨rfl, rfl⟩
end
section
variable {X : Cx} {pins : List (Addr × Obj)} {σ : L2.St} {H : Hp} {n : Nat} {f C : Addr} {fd : FuncData} {ps : List Str} {sp : Sp}
/-- != of two instances -/
theorem rc_N {A : Around} {s : Shared} {a dx : Addr} {fs : List (Str × V)} {y : V} {v tb : Value} {Q : Bool → Hp → Prop} {E : Value → Shared → Prop} (W : OwnC X.K C f) (fr : A.frames = some X.stack) (room : Room (n + 1) A)
    (F : FnOk X.prog X.w X.K X.mg X.base CX0 n f fd ps sp) (bd : Binds X.K fd ps []) (I : Inv X pins σ H s) (ha : H a = some (.ins C dx fs)) (rv : RelV y v) (hb : PySem.W.Looks (model X.prog X.w) s.heap (typeOf v) tb)
    (nf : PySem.W.notFirst X.K C tb = true) (hsp : sp [.ref a, y] H (fun z H' => ∃ b, z = .bl b ∧ Q (!b) H') E0) : wpAny (model X.prog X.w) A (richCompare .NotEq (.ref a) v) (BP X pins σ Q) E s := by
  obtain ⟨mA, J, _⟩ := ins_get I.hok ha
  obtain ⟨od, J, _⟩ := J.look
  have inner : wpAny (model X.prog X.w) A.in1 (Builtin.«object.__ne__» ⟨[.ref a, v], []⟩) (fun fl s' => ∃ u, fl = .done (.ret u) ∧ u ≠ .notImplemented ∧ BP X pins σ Q u s') E s := by
    unfold Builtin.«object.__ne__»
    refine wpAny_bind (m := slotArgs "__ne__" 1 _) (wpAny_pure ?_)
    dsimp only
    refine wpAny_bind (wpAny_cRoomFor room.in1.units0 ?_)
    refine wpAny_bind (PySem.W.ifBound_K I.kIn J W.eq W.fn (wpAny_mono (own_call (A := A.in1) fr room.in1 F bd I rv hsp) (fun u s' hu => ?_) fun _ _ z => z))
    obtain ⟨b, H', rfl, I', q⟩ := hu
    dsimp only
    refine wpAny_bind (m := truthy (.bool b)) (wpAny_truthy_bool ?_)
    exact wpAny_pure ⟨_, rfl, by simp, !b, H', rfl, I', q⟩
  have call_ : wpAny (model X.prog X.w) A (call (.builtin "object.__ne__") [.ref a, v]) (fun u s' => u ≠ .notImplemented ∧ BP X pins σ Q u s') E s := by
    refine wpAny_call (codeAny_call_builtin PySem.F.cmp_object.ne.plain PySem.F.cmpEntry_ne (PySem.W.check_slot PySem.F.cmpKind_ne PySem.F.cmpSplit_ne (J.type.andThen (PySem.W.looks_mroIn I.kIn W.mo)) (PySem.F.cmpArgs_ne _ _) (wpAny_mono inner (fun fl s' z => ?_) fun _ _ z => z)))
    obtain ⟨u, rfl, z1, z2⟩ := z
    exact ⟨z1, z2⟩
  have one : wpAny (model X.prog X.w) A (tryCompare (.ref a) "__ne__" v) (fun r s' => ∃ u, r = some u ∧ BP X pins σ Q u s') E s := by
    unfold tryCompare
    refine wpAny_bind ?_
    simp only [callSpecialIfBound?, bindSpecialIfBound?]
    refine wpAny_holding (wpAny_bind (wpAny_bind (wpAny_bind (J.type.here ((PySem.W.looks_findIn I.kIn W.ne).here ?_)))))
    refine wpAny_bind (wpAny_askSetting (wpAny_ite ?_))
    have fin : wpAny (model X.prog X.w) A (call (.builtin "object.__ne__") ([.ref a] ++ [v]) >>= fun z => pure (some z)) (fun r s1 => wpAny (model X.prog X.w) A (match r with
        | some .notImplemented => pure none
        | none => pure none
        | some z => pure (some z)) (fun r s' => ∃ u, r = some u ∧ BP X pins σ Q u s') E s1) E s := by
      refine wpAny_bind (wpAny_mono call_ (fun u s' z => wpAny_pure ?_) fun _ _ z => z)
      obtain ⟨z1, b, H', rfl, z2⟩ := z
      exact wpAny_pure ⟨_, rfl, b, H', rfl, z2⟩
    split
    · exact wpAny_bind (wpAny_of_eq (PySem.F.cmp_object.ne.bind _) (wpAny_pure (by exact fin)))
    · exact wpAny_tryCatch (wpAny_bind (wpAny_of_eq (PySem.F.cmp_object.ne.bind _) (wpAny_pure (by exact fin))))
  unfold richCompare
  simp only [oneThing_ref]
  refine wpAny_holding (wpAny_bind (wpAny_cRoomFor room.units0 ?_))
  refine wpAny_bind (J.type.here (wpAny_bind (hb.here ?_)))
  split
  · rename_i d
    have no : PySem.W.subIn X.K tb (.ref C) = some false := by
      rcases Bool.or_eq_true_iff.mp nf with z | z
      · rw [beq_iff_eq.mp z] at d
        simp at d
      · exact beq_iff_eq.mp z
    refine wpAny_bind ((PySem.W.looks_subIn I.kIn no).here ?_)
    simp only [Bool.false_eq_true, if_false]
    refine wpAny_bind (m := tryCompare (.ref a) _ v) (wpAny_mono one (fun r s' z => ?_) fun _ _ z => z)
    obtain ⟨u, rfl, q⟩ := z
    exact wpAny_pure q
  · refine wpAny_bind (wpAny_pure ?_)
    simp only [Bool.false_eq_true, if_false]
    refine wpAny_bind (m := tryCompare (.ref a) _ v) (wpAny_mono one (fun r s' z => ?_) fun _ _ z => z)
    obtain ⟨u, rfl, q⟩ := z
    exact wpAny_pure q
end
end K69
set_option Elab.async false
set_option linter.all false
set_option maxRecDepth 100000
set_option maxHeartbeats 4000000
set_option pp.maxSteps 400
set_option pp.deepTerms false
namespace K69
open PySem PySem.Spec PyProof.Rows L2
open AutoSeq1 (wpAny_loadPart')
section
variable {prog : Program} {w : World} {A : Around}
theorem in_loop {l x : Addr} {as : List Addr} {e : Addr → Bool} {J : Nat → Shared → Prop} {Y : Shared → Prop} {R : Result → Shared → Prop} (hl : ∀ i s, J i s → ∃ n, s.heap.get? l = some { cls := .type "list", data := .seq (as.map Value.ref).toArray n })
    (turn : ∀ i c s, as[i]? = some c → J i s → wpAny (model prog w) A.in1 (eqBool (.ref c) (.ref x)) (fun r s' => r = e c ∧ (e c = true → Y s') ∧ (e c = false → J (i + 1) s')) (fun z s' => R (.error z) s') s)
    (yes : ∀ s, Y s → R (.ok (.ret (.bool true))) s) (no : ∀ s, J as.length s → R (.ok (.ret (.bool false))) s) (k : Nat) :
    ∀ i : Nat, as.length - i = k → i ≤ as.length → ∀ s, J i s → wpAny (model prog w) A.in1 (Builtin.«list.__contains__.loop» ⟨[.ref l, .ref x, rawInt i], []⟩) (GQ.FinOf prog w A R) (fun z s' => R (.error z) s') s := by
  induction k with
  | zero =>
    intro i hk hi s h
    obtain ⟨n, e1⟩ := hl i s h
    have he : i = as.length := by omega
    have fin := no s (he ▸ h)
    obtain ⟨hp, g, d, tk, os⟩ := s
    wp_walk using wpAny_loadPart' e1
    have none_ : (as.map Value.ref).toArray[((i : Nat) : Int).toNat]? = none := by simp; omega
    rw [none_]
    wp_walk
    exact fin
  | succ k ih =>
    intro i hk hi s h
    obtain ⟨n, e1⟩ := hl i s h
    have lt : i < as.length := by omega
    have ht := turn i as[i] s (List.getElem?_eq_getElem lt) h
    obtain ⟨hp, g, d, tk, os⟩ := s
    wp_walk using wpAny_loadPart' e1
    have some_ : (as.map Value.ref).toArray[((i : Nat) : Int).toNat]? = some (.ref as[i]) := by simp [lt]
    have hc : ((i : Int) + 1) = ((i + 1 : Nat) : Int) := by omega
    rw [some_]
    refine wpAny_bind (wpAny_mono ht (fun r s2 h2 => ?_) fun _ _ z => z)
    obtain ⟨hr, h3, h4⟩ := h2
    subst hr
    cases hb : e as[i] with
    | true =>
      have y2 := yes s2 (h3 hb)
      obtain ⟨hp2, g2, d2, tk2, os2⟩ := s2
      wp_walk
      exact y2
    | false =>
      have rec_ := ih (i + 1) (by omega) (by omega) s2 (h4 hb)
      obtain ⟨hp2, g2, d2, tk2, os2⟩ := s2
      wp_walk
      rw [hc]
      exact ⟨plainId_quiet MeetsSeq.plain_contains_loop _, codeAny_builtin MeetsSeq.entry_contains_loop (by
        rw [Around.under_plainId MeetsSeq.plain_contains_loop _]
        exact rec_)⟩
end
section
variable {X : Cx} {n : Nat} {f C : Addr} {fd : FuncData} {ps : List Str} {sp : Sp}
/-- what is asked of the items and of what is looked for -/
structure InD (sp : Sp) (C : Addr) (H : Hp) (a l : Addr) (as : List Addr) (e : Addr → Bool) : Prop where
  ha : ∃ dx fs, H a = some (.ins C dx fs)
  hl : H l = some (.lst (as.map V.ref))
  ne : ∀ c ∈ as, c ≠ a
  it : ∀ c ∈ as, ∃ dx fs, H c = some (.ins C dx fs)
  ask : ∀ c ∈ as, ∀ (H' : Hp) (Q : Bool → Hp → Prop), Same H H' → (∀ H2, Same H' H2 → Q (e c) H2) → sp [.ref c, .ref a] H' (fun z H2 => ∃ b, z = .bl b ∧ Q b H2) E0
theorem as_ref : ∀ {as : List Addr} {its : List Value}, Vals (as.map V.ref) its → its = as.map Value.ref
  | [], _, .nil => rfl
  | a :: as, _, .cons r t => by
    cases r
    rw [as_ref t]
    rfl
theorem contains_own (W : OwnC X.K C f) (room : Room (n + 2) X.A) (F : FnOk X.prog X.w X.K X.mg X.base CX0 n f fd ps sp) (bd : Binds X.K fd ps []) {pins : List (Addr × Obj)} {σ : L2.St} {H : Hp} {s : Shared} {a l : Addr} {as : List Addr} {e : Addr → Bool}
    {E : Value → Shared → Prop} {Q : Bool → Shared → Prop} (I : Inv X pins σ H s) (d : InD sp C H a l as e) (q : ∀ H' s', Inv X pins σ H' s' → Same H H' → Q (as.any e) s') :
    wpAny (model X.prog X.w) X.A (call (.builtin "list.__contains__") [.ref l, .ref a]) (fun u s' => ∃ b, u = .bool b ∧ Q b s') E s := by
  have at_ : ∀ {s' : Shared} {H' : Hp}, Inv X pins σ H' s' → Same H H' → ∃ n, s'.heap.get? l = some { cls := .type "list", data := .seq (as.map Value.ref).toArray n } := fun {s' H'} I' sm => by
    obtain ⟨_, its, m, r, e1⟩ := I'.hok l _ (sm _ _ d.hl)
    rw [as_ref r] at e1
    exact ⟨m, e1⟩
  obtain ⟨m0, e0⟩ := at_ I (Same.refl H)
  refine GQ.call_here PySem.F.slot_list_contains ⟨_, e0, rfl⟩ PySem.F.entry_list_contains (PySem.F.args_list_contains_2 _ _) ?_
  have loop := in_loop (prog := X.prog) (w := X.w) (A := X.A) (l := l) (x := a) (as := as) (e := e) (J := fun i s' => ∃ H', Inv X pins σ H' s' ∧ Same H H' ∧ (as.take i).any e = false) (Y := fun s' => ∃ H', Inv X pins σ H' s' ∧ Same H H' ∧ as.any e = true)
    (R := wants (fun u s' => ∃ b, u = .bool b ∧ Q b s') E) (fun i s' z => by
      obtain ⟨H', I', sm, _⟩ := z
      exact at_ I' sm) (fun i c s' hc z => ?_) (fun s' z => ?_) (fun s' z => ?_) as.length 0 (by omega) (Nat.zero_le _) s ⟨H, I, Same.refl H, by simp⟩
  · obtain ⟨hp, g, dd, tk, os⟩ := s
    wp_walk using wpAny_loadPart' e0
    exact ⟨plainId_quiet MeetsSeq.plain_contains_loop _, codeAny_builtin MeetsSeq.entry_contains_loop (by
      rw [Around.under_plainId MeetsSeq.plain_contains_loop _]
      exact loop)⟩
  · obtain ⟨H', I', sm, no⟩ := z
    have cm : c ∈ as := List.mem_of_getElem? hc
    obtain ⟨dx, fs, ec⟩ := d.it c cm
    obtain ⟨dxa, fsa, ea⟩ := d.ha
    obtain ⟨mB, JB, _⟩ := ins_get I'.hok (sm _ _ ea)
    obtain ⟨oB, JB, _⟩ := JB.look
    refine GQ.eqBool_refG (d.ne c cm) (wpAny_mono (rc_L (A := X.A.in1) (n := n) W (by show X.A.frames = some X.stack; exact I.ok.frames) (room.in1.mono (Nat.le_succ _)) F bd I' (sm _ _ ec) (y := .ref a) rfl JB.type (by simp [PySem.W.notFirst])
      (d.ask c cm H' (fun b H2 => b = e c ∧ Same H' H2) sm fun H2 s2 => ⟨rfl, s2⟩)) (fun u s2 hu => ?_) fun _ _ z => z)
    obtain ⟨b, H2, rfl, I2, rfl, s2⟩ := hu
    refine ⟨_, rfl, rfl, fun y => ⟨H2, I2, sm.trans s2, List.any_eq_true.mpr ⟨c, cm, y⟩⟩, fun y => ⟨H2, I2, sm.trans s2, ?_⟩⟩
    rw [List.take_add_one, hc, List.any_append, no]
    simp [y]
  · obtain ⟨H', I', sm, y⟩ := z
    refine ⟨true, rfl, ?_⟩
    have r := q H' s' I' sm
    rw [y] at r
    exact r
  · obtain ⟨H', I', sm, y⟩ := z
    rw [List.take_length] at y
    refine ⟨false, rfl, ?_⟩
    have r := q H' s' I' sm
    rw [y] at r
    exact r
def rInO (sp : Sp) (C : Addr) (neg : Bool) : R2 := fun x y H Q => ∃ (a l : Addr) (as : List Addr) (e : Addr → Bool), x = .ref a ∧ y = .ref l ∧ InD sp C H a l as e ∧ ∀ H', Same H H' → Q (.bl (if neg = true then !as.any e else as.any e)) H'
theorem op_inO (W : OwnC X.K C f) (room : Room (n + 2) X.A) (F : FnOk X.prog X.w X.K X.mg X.base CX0 n f fd ps sp) (bd : Binds X.K fd ps []) : OpR X (compareOp .In) (rInO sp C false) := by
  intro pins s σ H x y u v Q I rx ry h
  obtain ⟨a, l, as, e, rfl, rfl, d, q⟩ := h
  cases rx
  cases ry
  obtain ⟨_, its, m, r, e1⟩ := I.hok l _ d.hl
  show wpAny (model X.prog X.w) X.A (do return Value.bool (← contains (.ref l) (.ref a))) _ _ s
  refine wpAny_bind (wpAny_contains_slot ⟨_, e1, rfl⟩ PySem.F.slot_list_contains (wpAny_mono (contains_own (Q := fun b s' => EP X pins σ Q (.bool b) s') W room F bd I d fun H' s' I' sm => ⟨.bl (as.any e), H', I', rfl, q H' sm⟩) (fun z s' hz => ?_) fun _ _ z => z))
  obtain ⟨b, rfl, hq⟩ := hz
  exact wpAny_truthy_bool (wpAny_pure hq)
theorem op_notInO (W : OwnC X.K C f) (room : Room (n + 2) X.A) (F : FnOk X.prog X.w X.K X.mg X.base CX0 n f fd ps sp) (bd : Binds X.K fd ps []) : OpR X (compareOp .NotIn) (rInO sp C true) := by
  intro pins s σ H x y u v Q I rx ry h
  obtain ⟨a, l, as, e, rfl, rfl, d, q⟩ := h
  cases rx
  cases ry
  obtain ⟨_, its, m, r, e1⟩ := I.hok l _ d.hl
  show wpAny (model X.prog X.w) X.A (do return Value.bool (!(← contains (.ref l) (.ref a)))) _ _ s
  refine wpAny_bind (wpAny_contains_slot ⟨_, e1, rfl⟩ PySem.F.slot_list_contains (wpAny_mono (contains_own (Q := fun b s' => EP X pins σ Q (.bool (!b)) s') W room F bd I d fun H' s' I' sm => ⟨.bl (!as.any e), H', I', rfl, q H' sm⟩) (fun z s' hz => ?_) fun _ _ z => z))
  obtain ⟨b, rfl, hq⟩ := hz
  exact wpAny_truthy_bool (wpAny_pure hq)
end
end K69
set_option Elab.async false
set_option linter.all false
set_option maxRecDepth 100000
set_option maxHeartbeats 4000000
namespace K69
open PySem PySem.Spec PyProof.Rows L2
theorem law_go {P : Program} {w : World} {K : PySem.W.Frag} {mg mb : Str → Option Value} {k : Nat} {fa a : Addr} {fd : FuncData} {x : Str} {sp : Sp} {z : Shared} {vs : List Value} {ns : List Int}
    (kin : K.In z.heap) (nsG : z.heap.Ns mainGlobals mg) (nsB : z.heap.Ns builtinsNs mb) (same : ∀ y : Str, y ≠ "__name__" → mb y = bootBuiltins y) (lim : z.heap.NoLimit) (dig : z.heap.NoDigits) (no : z.gens = #[])
    (at_ : z.heap.get? a = some { cls := .type "list", data := .seq vs.toArray }) (intsA : IntsAre vs ns) (many : ns.length ≤ sizeLine) (room : Room k callerA)
    (F : ∀ base : Heap, K.In base → base.Ns mainGlobals mg → base.NoDigits → Gn P w K mg base k fa fd [x] sp) (bind : ∀ (s : Shared) (u : Value), BindsTo s fd ⟨[u], []⟩ [(x, u)])
    (hsp : ∀ H : Hp, SqL K H a (ns.map V.int) → sp [.ref a] H (fun v _ => v = .bl true) fun _ _ _ => False) :
    codeAny (model P w) callerA (.call (.ref fa) ⟨[.ref a], []⟩) (fun r s' => r = .ok (.ret (.bool true)) ∧ OldK z.heap s'.heap ∧ s'.os = z.os ∧ AllBare s'.gens) z := by
  have rv : Vals (ns.map V.int) vs := vals_ints intsA
  have sz : (ns.map V.int).length ≤ sizeLine := by rw [List.length_map]; exact many
  -- what is tracked: the script, unless it is the module's own
  let u : HO := .frz { cls := .type "list", data := .seq vs.toArray } (.lst (ns.map V.int))
  let H : Hp := fun b => if b = a ∧ K.lookup a = none then some u else none
  have only : ∀ b o, H b = some o → b = a ∧ K.lookup a = none ∧ o = u := fun b o e => by
    by_cases c : b = a ∧ K.lookup a = none
    · have e2 : H b = some u := if_pos c
      rw [e2] at e
      exact ⟨c.1, c.2, (Option.some.inj e).symm⟩
    · have e2 : H b = none := if_neg c
      rw [e2] at e
      cases e
  have sq : SqL K H a (ns.map V.int) := by
    cases hk : K.lookup a with
    | none => exact .inl (.inr ⟨_, if_pos ⟨rfl, hk⟩⟩)
    | some o =>
      have e := kin a o hk
      rw [at_] at e
      cases e
      exact .inr ⟨_, vs.toArray, _, hk, rfl, rfl, rfl, by rw [List.size_toArray, ← rv.length]; exact sz, by simpa using rv⟩
  have hok : HOk P w H z.heap := fun b o e => by
    obtain ⟨rfl, _, rfl⟩ := only b o e
    exact ⟨at_, sz, vs, _, rv, at_⟩
  have dictFree : ∀ {b : Addr} {o : Obj} {es : Array DictEntry} {ep : Nat}, z.heap.get? b = some o → o.data = .dict es ep → H b = none := fun {b o es ep} e d => by
    cases q : H b with
    | none => rfl
    | some v =>
      obtain ⟨rfl, _, _⟩ := only b v q
      rw [at_] at e
      cases e
      cases (show Data.seq vs.toArray _ = Data.dict es ep from d)
  have nsK : ∀ {b : Addr} {m : Str → Option Value}, z.heap.Ns b m → (hidT z.heap H).Ns b m := fun {b m} q => by
    obtain ⟨o, es, ep, e, d, r⟩ := q
    exact ⟨o, es, ep, hidT_get e (dictFree e d), d, r⟩
  have kb : K.In (hidT z.heap H) := fun b o e => by
    refine hidT_get (kin b o e) ?_
    cases q : H b with
    | none => rfl
    | some v =>
      obtain ⟨rfl, n, _⟩ := only b v q
      rw [n] at e
      cases e
  have limB : (hidT z.heap H).NoLimit := by
    obtain ⟨mc, h1, h2⟩ := lim
    exact ⟨mc, nsK h1, h2⟩
  have digB : (hidT z.heap H).NoDigits := by
    obtain ⟨mc, h1, h2⟩ := dig
    exact ⟨mc, nsK h1, h2⟩
  have en : Env0 P w K mg (hidT z.heap H) callerA [] z H :=
    ⟨rfl, ⟨kb, nsK nsG, ⟨mb, nsK nsB, same⟩, limB⟩, fun _ _ e => of_hidT e, Nat.le_of_eq (hidT_size _ _), trivial, (fun b hb => absurd (show b ∈ ([] : List Addr) from hb) List.not_mem_nil), hok, .of_eq no⟩
  refine codeAny_mono ((F _ kb (nsK nsG) digB).go callerA [] z H ⟨[.ref a], []⟩ [.ref a] [.ref a] _ _ rfl room en (bind z (.ref a)) (.cons rfl .nil) (hsp H sq)) fun r s' h => ?_
  match r, h with
  | .error e, h => exact False.elim h
  | .ok .next, h => exact False.elim h
  | .ok .brk, h => exact False.elim h
  | .ok .cont, h => exact False.elim h
  | .ok (.ret y), h =>
    obtain ⟨v, H', os, bare, un, hok', r', q⟩ := h
    obtain rfl : v = .bl true := q
    obtain rfl : y = Value.bool true := r'
    refine ⟨rfl, OldK.of_keep fun b o e => ?_, os, bare⟩
    cases q : H b with
    | none => exact un.keep b o e q (fun y => by cases y) (fun y => by cases y)
    | some v =>
      obtain ⟨rfl, _, rfl⟩ := only b v q
      have e2 := (hok' _ _ (un.frzs _ _ _ q)).1
      rw [at_] at e
      cases e
      exact e2
theorem walk_go {l : PySem.W.OpenLaw} {n k : Nat} {q : Program} {loose : List Str} {XP : (Str → Option Value) → Heap → Prop} {YP : World → Heap → Prop} {d : DefRec} {K : Params → PySem.W.Frag} {sp : PySem.W.Frag → Sp} {x : Str}
    (most : l.most = some n) (small : n ≤ sizeLine) (nodef : d.params.defaults = []) (room : Room k callerA) (hY : ∀ (w : World) (h : Heap), YP w h → (K w.params).In h)
    (F : ∀ (w : World) (mg : Str → Option Value) (fa : Addr) (h : Heap), (K w.params).In h → h.Ns mainGlobals mg → mg d.name = some (.ref fa) →
      ∃ fd : FuncData, (∀ (s : Shared) (u : Value), BindsTo s fd ⟨[u], []⟩ [(x, u)]) ∧ ∀ base : Heap, (K w.params).In base → base.Ns mainGlobals mg → base.NoDigits →
        Gn l.prog w (K w.params) mg base k fa fd [x] (sp (K w.params)))
    (hsp : ∀ (K : PySem.W.Frag) (H : Hp) (a : Addr) (ns : List Int), ns.length ≤ n → SqL K H a (ns.map V.int) → sp K [.ref a] H (fun v _ => v = .bl true) fun _ _ _ => False) :
    PySem.W.WalkO q loose XP YP l.row.toRowW d [] (fun f vs => PySem.call f vs) := by
  refine Att.attach_call most nodef fun w s₀ s₁ mg mb fa o pm cd doc a vs ns G Y _ _ _ hmg hobj hints hlen hg => ?_
  have kin := hY w _ Y
  obtain ⟨fd, hb, hF⟩ := F w mg fa _ kin G.T.g hmg
  exact law_go kin G.T.g G.T.b G.T.builtins G.T.nolimit G.T.nodigits hg hobj hints (Nat.le_trans hlen small) room hF hb fun H hS => hsp _ H a ns hlen hS
end K69
set_option Elab.async false
set_option linter.all false
set_option maxRecDepth 100000
set_option maxHeartbeats 4000000
set_option pp.maxSteps 400
set_option pp.deepTerms false
/-! Texts that are parted at one sign and put together again. -/
namespace Xtx
open PySem PySem.Spec PyProof.Rows L2
open PySem.StrLaws PySem.Builtin PySem.Builtin.Str
/-- one sign -/
abbrev s1 (c : Nat) : Str := ⟨#[c]⟩
theorem occ_all (s : Str) (c limit : Nat) : ∀ (n a : Nat) (st : Array Nat × Nat), st.2 ≤ a → st.1.size + n ≤ limit →
    (forIn (List.range' a n) st (occBody s (s1 c) s.length limit)).run.fst.toList = st.1.toList ++ (List.range' a n).filter (fun i => decide (s.cps.toList[i]? = some c))
  | 0, a, st, _, _ => by
    show st.1.toList = st.1.toList ++ []
    rw [List.append_nil]
  | n + 1, a, st, h1, h2 => by
    rw [List.range'_succ, List.forIn_cons, List.filter_cons]
    unfold occBody
    by_cases e : s.cps.toList[a]? = some c
    · have w := (subAt_one s c a).mpr e
      rw [if_pos ⟨⟨⟨by omega, h1⟩, w.1⟩, w.2⟩, if_pos (decide_eq_true e)]
      have ih := occ_all s c limit n (a + 1) (st.1.push a, a + 1) (Nat.le_refl _) (by rw [Array.size_push]; omega)
      refine (show _ = _ from ih).trans ?_
      rw [Array.toList_push, List.append_assoc]
      rfl
    · have w : ¬ (((st.1.size < limit ∧ st.2 ≤ a) ∧ a + (s1 c).length ≤ s.length) ∧ subAt s (s1 c) a = true) := fun z => e ((subAt_one s c a).mp ⟨z.1.2, z.2⟩)
      rw [if_neg w, if_neg (fun z => e (of_decide_eq_true z))]
      exact occ_all s c limit n (a + 1) (st.1, st.2) (by omega) (by show st.1.size + n ≤ limit; omega)
/-- where a sign stands -/
def cuts (s : Str) (c : Nat) : List Nat := (List.range' 0 s.length).filter fun i => decide (s.cps.toList[i]? = some c)
theorem occ_cuts (s : Str) (c : Nat) : occurrences s (s1 c) 0 s.length (s.length + 1) = cuts s c := by
  rw [occ_eq, occ_all s c (s.length + 1) (s.length + 1 - 0) 0 (#[], 0) (Nat.le_refl _) (by simp)]
  unfold cuts
  rw [show s.length + 1 - 0 = s.length + 1 from rfl, List.range'_concat, List.filter_append]
  have e : s.cps.toList[0 + 1 * s.length]? ≠ some c := fun z => by
    have := (List.getElem?_eq_some_iff.mp z).1
    have l : s.length = s.cps.toList.length := rfl
    omega
  rw [List.filter_cons, if_neg (fun z => e (of_decide_eq_true z))]
  simp
/-- without the sign -/
def Fr (c : Nat) (s : Str) : Prop := c ∉ s.cps.toList
theorem zip_free (s : Str) (c : Nat) : ∀ (cs : List Nat) (a : Nat), cs.Pairwise (· < ·) → (∀ i ∈ cs, a ≤ i) → (∀ k, a ≤ k → s.cps.toList[k]? = some c → k ∈ cs) →
    ∀ p ∈ (a :: cs.map (· + 1)).zip (cs ++ [s.length]), Fr c (strSub s p.1 p.2)
  | [], a, _, _, h3, p, hp => by
    simp only [List.map_nil, List.nil_append, List.zip_cons_cons, List.zip_nil_right, List.mem_singleton] at hp
    rw [hp]
    intro m
    rw [strSub_toList] at m
    obtain ⟨k, e⟩ := List.mem_iff_getElem?.mp (List.mem_of_mem_take m)
    rw [List.getElem?_drop] at e
    cases h3 (a + k) (by omega) e
  | i :: cs, a, h1, h2, h3, p, hp => by
    obtain ⟨p1, p2⟩ := List.pairwise_cons.mp h1
    simp only [List.map_cons, List.cons_append, List.zip_cons_cons] at hp
    rcases List.mem_cons.mp hp with e | m
    · rw [e]
      intro m
      rw [strSub_toList] at m
      obtain ⟨k, e⟩ := List.mem_iff_getElem?.mp m
      rw [List.getElem?_take] at e
      split at e
      · rename_i lt
        rw [List.getElem?_drop] at e
        rcases List.mem_cons.mp (h3 (a + k) (by omega) e) with z | z
        · omega
        · have := p1 _ z
          omega
      · cases e
    · refine zip_free s c cs (i + 1) p2 (fun j hj => p1 j hj) (fun k hk e => ?_) p m
      have ai := h2 i List.mem_cons_self
      rcases List.mem_cons.mp (h3 k (by omega) e) with z | z
      · omega
      · exact z
theorem parts_free (s : Str) (c : Nat) : ∀ t ∈ partsBetween s (cuts s c) 1, Fr c t := fun t ht => by
  unfold partsBetween at ht
  obtain ⟨p, hp, rfl⟩ := List.mem_map.mp ht
  refine zip_free s c (cuts s c) 0 ?_ (fun i _ => Nat.zero_le i) (fun k _ e => ?_) p hp
  · exact List.Pairwise.filter _ (List.pairwise_lt_range')
  · have hk := (List.getElem?_eq_some_iff.mp e).1
    refine List.mem_filter.mpr ⟨?_, decide_eq_true e⟩
    rw [List.mem_range'_1]
    exact ⟨Nat.zero_le _, by show k < 0 + s.length; have l : s.length = s.cps.toList.length := rfl; omega⟩
theorem cut_one {c : Nat} : ∀ {p q r t : List Nat}, c ∉ p → c ∉ q → p ++ c :: r = q ++ c :: t → p = q ∧ r = t
  | [], [], _, _, _, _, e => ⟨rfl, (List.cons.inj e).2⟩
  | [], b :: q, _, _, _, h2, e => absurd (by rw [(List.cons.inj e).1]; exact List.mem_cons_self) h2
  | a :: p, [], _, _, h1, _, e => absurd (by rw [← (List.cons.inj e).1]; exact List.mem_cons_self) h1
  | a :: p, b :: q, _, _, h1, h2, e => by
    obtain ⟨e1, e2⟩ := List.cons.inj e
    obtain ⟨e3, e4⟩ := cut_one (fun z => h1 (List.mem_cons_of_mem _ z)) (fun z => h2 (List.mem_cons_of_mem _ z)) e2
    exact ⟨by rw [e1, e3], e4⟩
theorem str_eq {x y : Str} (h : x.cps.toList = y.cps.toList) : x = y := by
  cases x; cases y
  exact congrArg Str.mk (Array.toList_inj.mp h)
theorem join_one (c : Nat) (x y : Str) (r : List Str) : (Str.join (s1 c) (x :: y :: r)).cps.toList = x.cps.toList ++ c :: (Str.join (s1 c) (y :: r)).cps.toList := by
  show (x ++ s1 c ++ Str.join (s1 c) (y :: r)).cps.toList = _
  rw [Str.cps_append, Array.toList_append, Str.cps_append, Array.toList_append, List.append_assoc]
  rfl
/-- rows without the sign are told by their text -/
theorem join_inj {c : Nat} : ∀ {ps qs : List Str}, ps ≠ [] → qs ≠ [] → (∀ p ∈ ps, Fr c p) → (∀ q ∈ qs, Fr c q) → Str.join (s1 c) ps = Str.join (s1 c) qs → ps = qs
  | [], _, h, _, _, _, _ => absurd rfl h
  | _ :: _, [], _, h, _, _, _ => absurd rfl h
  | [p], [q], _, _, _, _, e => by
    have e2 : p = q := e
    rw [e2]
  | [p], q :: q2 :: qs, _, _, hp, hq, e => by
    have w := congrArg (fun s : Str => s.cps.toList) e
    rw [join_one] at w
    refine absurd ?_ (hp p List.mem_cons_self)
    show c ∈ p.cps.toList
    have w2 : p.cps.toList = q.cps.toList ++ c :: (Str.join (s1 c) (q2 :: qs)).cps.toList := w
    rw [w2]
    exact List.mem_append_right _ List.mem_cons_self
  | p :: p2 :: ps, [q], _, _, hp, hq, e => by
    have w := congrArg (fun s : Str => s.cps.toList) e
    rw [join_one] at w
    refine absurd ?_ (hq q List.mem_cons_self)
    show c ∈ q.cps.toList
    have w2 : p.cps.toList ++ c :: (Str.join (s1 c) (p2 :: ps)).cps.toList = q.cps.toList := w
    rw [← w2]
    exact List.mem_append_right _ List.mem_cons_self
  | p :: p2 :: ps, q :: q2 :: qs, _, _, hp, hq, e => by
    have w := congrArg (fun s : Str => s.cps.toList) e
    rw [join_one, join_one] at w
    obtain ⟨e1, e2⟩ := cut_one (hp p List.mem_cons_self) (hq q List.mem_cons_self) w
    have ih := join_inj (List.cons_ne_nil p2 ps) (List.cons_ne_nil q2 qs) (fun z hz => hp z (List.mem_cons_of_mem _ hz)) (fun z hz => hq z (List.mem_cons_of_mem _ hz)) (str_eq e2)
    rw [str_eq e1, ih]
theorem kind1 {c : Nat} (hc : c < 256) : Builtin.Str.strKind (s1 c) = 1 := by
  unfold Builtin.Str.strKind
  rw [if_pos]
  simp [hc]
theorem kind_le (x : Str) : 1 ≤ Builtin.Str.strKind x := by
  unfold Builtin.Str.strKind
  split
  · exact Nat.le_refl _
  · split <;> decide
theorem join_ne {c : Nat} {a b : Str} {r : List Str} : 1 ≤ (Str.join (s1 c) (a :: b :: r)).length := by
  have w := congrArg List.length (join_one c a b r)
  rw [List.length_append, List.length_cons] at w
  show 1 ≤ (Str.join (s1 c) (a :: b :: r)).cps.toList.length
  omega
/-- text.split(sign) of rows put together -/
theorem split_join {c : Nat} (hc : c < 256) {ls : List Str} (ne : ls ≠ []) (fr : ∀ t ∈ ls, Fr c t) : Txt.split (Str.join (s1 c) ls) (s1 c) = ls := by
  obtain ⟨x, ex⟩ : ∃ x, Str.join (s1 c) ls = x := ⟨_, rfl⟩
  rw [ex]
  have one : ls.length = 1 ∨ 1 ≤ x.length := by
    match ls, ne, ex with
    | [a], _, _ => exact .inl rfl
    | a :: b :: r, _, ex => exact .inr (by rw [← ex]; exact join_ne)
  have ck : cuts x c = [] → [x] = ls := fun e => by
    have fx : Fr c x := fun m => by
      obtain ⟨k, hk⟩ := List.mem_iff_getElem?.mp m
      have hl := (List.getElem?_eq_some_iff.mp hk).1
      have : k ∈ cuts x c := List.mem_filter.mpr ⟨by rw [List.mem_range'_1]; exact ⟨Nat.zero_le _, by show k < 0 + x.length; have l : x.length = x.cps.toList.length := rfl; omega⟩, decide_eq_true hk⟩
      rw [e] at this
      cases this
    exact join_inj (List.cons_ne_nil _ _) ne (fun z hz => by rw [List.mem_singleton.mp hz]; exact fx) fr ex.symm
  unfold Txt.split
  by_cases c1 : (decide (x.length < (s1 c).length) || decide (Builtin.Str.strKind x < Builtin.Str.strKind (s1 c))) = true
  · rw [if_pos c1]
    refine ck ?_
    rw [kind1 hc, Bool.or_eq_true, decide_eq_true_eq, decide_eq_true_eq] at c1
    have k1 := kind_le x
    rcases c1 with z | z
    · have z2 : x.length < 1 := z
      unfold cuts
      rw [show x.length = 0 by omega]
      rfl
    · omega
  · rw [if_neg c1, occ_cuts]
    by_cases c2 : (cuts x c).isEmpty = true
    · rw [if_pos c2]
      exact ck (List.isEmpty_iff.mp c2)
    · rw [if_neg c2]
      show partsBetween x (cuts x c) 1 = ls
      have g := glued_between_self x (s1 c) (x.length + 1)
      rw [occ_cuts, glued_eq_join] at g
      refine join_inj (c := c) ?_ ne (parts_free x c) fr (g.trans ex.symm)
      unfold partsBetween
      intro z
      have w := congrArg List.length z
      simp at w
/-! strip, lstrip, rstrip -/
theorem drop_while (p : Nat → Bool) : ∀ l : List Nat, l.drop (l.takeWhile p).length = l.dropWhile p
  | [] => rfl
  | a :: r => by
    rw [List.takeWhile_cons, List.dropWhile_cons]
    split
    · rw [List.length_cons, List.drop_succ_cons, drop_while p r]
    · rfl
theorem take_while (p : Nat → Bool) (l : List Nat) : l.take (l.length - (l.reverse.takeWhile p).length) = (l.reverse.dropWhile p).reverse := by
  rw [← drop_while p l.reverse, List.reverse_drop, List.reverse_reverse, List.length_reverse]
theorem while_le (p : Nat → Bool) : ∀ l : List Nat, (l.takeWhile p).length ≤ l.length
  | [] => Nat.le_refl _
  | a :: r => by
    rw [List.takeWhile_cons]
    split
    · have := while_le p r
      simp only [List.length_cons]
      omega
    · exact Nat.zero_le _
theorem strip_list (goes : Nat → Bool) (l r : Bool) (x : Str) : (Txt.stripBy goes l r x).cps.toList =
    (if r = true then (((if l = true then x.cps.toList.dropWhile goes else x.cps.toList).reverse.dropWhile goes).reverse) else (if l = true then x.cps.toList.dropWhile goes else x.cps.toList)) := by
  have lx : x.length = x.cps.toList.length := rfl
  have e1 : x.cps.toList.drop (stripLo goes l x) = (if l = true then x.cps.toList.dropWhile goes else x.cps.toList) := by
    unfold stripLo
    cases l with
    | true => rw [if_pos rfl, if_pos rfl]; exact drop_while goes _
    | false => rw [if_neg Bool.false_ne_true, if_neg Bool.false_ne_true]; rfl
  have llo : stripLo goes l x ≤ x.cps.toList.length := by
    unfold stripLo
    cases l with
    | true => rw [if_pos rfl]; exact while_le goes _
    | false => rw [if_neg Bool.false_ne_true]; exact Nat.zero_le _
  have e2 : (strSub x (stripLo goes l x) (stripHi goes r x (stripLo goes l x))).cps.toList = (if r = true then (((if l = true then x.cps.toList.dropWhile goes else x.cps.toList).reverse.dropWhile goes).reverse) else (if l = true then x.cps.toList.dropWhile goes else x.cps.toList)) := by
    rw [strSub_toList, ← e1]
    have ly : (x.cps.toList.drop (stripLo goes l x)).length = x.cps.toList.length - stripLo goes l x := List.length_drop
    unfold stripHi
    cases r with
    | true =>
      rw [if_pos rfl, if_pos rfl, ← take_while goes, ly, lx]
      congr 1
      omega
    | false =>
      rw [if_neg Bool.false_ne_true, if_neg Bool.false_ne_true, lx]
      exact List.take_of_length_le (by rw [ly]; exact Nat.le_refl _)
  unfold Txt.stripBy
  split
  · rename_i h
    unfold stripSame at h
    rw [Bool.and_eq_true, beq_iff_eq, beq_iff_eq] at h
    rw [← e2, h.1] at *
    rw [h.2, strSub_toList, List.drop_zero, Nat.sub_zero, lx, List.take_length]
  · exact e2
def bl (c : Nat) : Bool := (" " : Str).cps.contains c
theorem bl_iff (c : Nat) : bl c = decide (c = 32) := by
  unfold bl
  rw [show (" " : Str).cps = #[32] by decide +kernel, Bool.eq_iff_iff, decide_eq_true_iff]
  simp
theorem rs_list (x : Str) : (Txt.rstripChars x " ").cps.toList = (x.cps.toList.reverse.dropWhile bl).reverse := by
  unfold Txt.rstripChars
  rw [strip_list]
  rfl
theorem ls_list (x : Str) : (Txt.lstripChars x " ").cps.toList = x.cps.toList.dropWhile bl := by
  unfold Txt.lstripChars
  rw [strip_list]
  rfl
theorem st_list (x : Str) : (Txt.stripChars x " ").cps.toList = ((x.cps.toList.dropWhile bl).reverse.dropWhile bl).reverse := by
  unfold Txt.stripChars
  rw [strip_list]
  rfl
/-- blanks ahead are taken off -/
theorem ls_blanks (n : Nat) {y : Str} (h : y.cps.toList.head? ≠ some 32) : (Txt.lstripChars ⟨(List.replicate n 32 ++ y.cps.toList).toArray⟩ " ") = y := by
  refine str_eq ?_
  rw [ls_list]
  show (List.replicate n 32 ++ y.cps.toList).dropWhile bl = y.cps.toList
  induction n with
  | zero =>
    rw [List.replicate_zero, List.nil_append]
    cases e : y.cps.toList with
    | nil => rfl
    | cons a r =>
      rw [e] at h
      have ha : a ≠ 32 := fun z => h (by rw [z]; rfl)
      rw [List.dropWhile_cons, bl_iff, decide_eq_false ha]
      rfl
  | succ n ih =>
    rw [List.replicate_succ, List.cons_append, List.dropWhile_cons, bl_iff, decide_eq_true rfl]
    exact ih
end Xtx
set_option Elab.async false
set_option linter.all false
set_option maxRecDepth 100000
set_option maxHeartbeats 4000000
set_option pp.maxSteps 400
set_option pp.deepTerms false
/-! A caught exception that is kept: tracked as an object of its own, with its class and its dict. -/
namespace Xk
open PySem PySem.Spec PyProof.Rows L2
/-- at a: an exception of the class cls, its dict at d (if it has one) -/
def ExK (cls : Value) (d : Option Addr) (a : Addr) : HO := .ext fun h => ∃ oe : Obj, h.get? a = some oe ∧ Zc cls d oe ∧ ∃ vs, oe.data = .fields vs
theorem exK_ok {P : Program} {w : World} {H : Hp} {h : Heap} {a : Addr} {cls : Value} {d : Option Addr} {oe : Obj} {vs : Array Value}
    (e : h.get? a = some oe) (z : Zc cls d oe) (hd : oe.data = .fields vs) : ObjOk P w H h a (ExK cls d a) :=
  ⟨⟨oe, e, z, vs, hd⟩, ⟨oe, e⟩, fun _ _ y k => by
    obtain ⟨o, q, r⟩ := y
    exact ⟨o, k o q, r⟩⟩
theorem exK_at {P : Program} {w : World} {H : Hp} {h : Heap} {a : Addr} {cls : Value} {d : Option Addr} (hok : HOk P w H h) (e : H a = some (ExK cls d a)) :
    ∃ oe : Obj, h.get? a = some oe ∧ Zc cls d oe ∧ ∃ vs, oe.data = .fields vs := by
  have z : ObjOk P w H h a (.ext fun h => ∃ oe : Obj, h.get? a = some oe ∧ Zc cls d oe ∧ ∃ vs, oe.data = .fields vs) := hok a _ e
  exact z.1
section
variable {X : Cx} {pins : List (Addr × Obj)} {σ : L2.St} {H : Hp} {s : Shared}
/-- an object that came during the call, untracked as yet, is tracked from here on -/
theorem track {a : Addr} {o : HO} (I : Inv X pins σ H s) (h0 : X.s_0.heap.get? a = none) (na : H a = none) (nL : a ≠ X.env.locals)
    (nC : ∀ x c, X.env.cells.lookup x = some c → c ≠ a) (nP : ∀ p ∈ X.pn ++ pins, p.1 ≠ a) (new : ObjOk X.prog X.w (upd H a o) s.heap a o) : Inv X pins σ (upd H a o) s := by
  have n0 : ∀ {b : Addr} {u : Obj}, X.s_0.heap.get? b = some u → b ≠ a := fun {b u} e z => by
    rw [z, h0] at e
    cases e
  refine ⟨I.ok, I.os, I.bare, ⟨I.base.keep, I.base.slot, fun b u e n hx => ?_, I.base.there, fun b xs e => ?_, fun b u v e => ?_, fun b ps e => ?_⟩, I.loc, I.cell, ?_, fun x c e => ?_, fun p hp => ?_, fun b u e => ?_, I.len⟩
  · rw [upd_ne (n0 e)]
    exact I.base.free b u e n hx
  · have q := I.base.tups b xs e
    rw [upd_ne (ne_of_none q na)]
    exact q
  · have q := I.base.frzs b u v e
    rw [upd_ne (ne_of_none q na)]
    exact q
  · obtain ⟨m, q⟩ := I.base.tbls b ps e
    exact ⟨m, by rw [upd_ne (ne_of_none q na)]; exact q⟩
  · rw [upd_ne (Ne.symm nL)]
    exact I.free
  · rw [upd_ne (nC x c e)]
    exact I.freeC x c e
  · obtain ⟨e1, e2, e3⟩ := I.pin p hp
    exact ⟨e1, by rw [upd_ne (nP p hp)]; exact e2, e3⟩
  · by_cases hb : b = a
    · subst hb
      rw [upd_same] at e
      cases e
      exact new
    · rw [upd_ne hb] at e
      refine (I.hok b u e).stay (fun _ _ _ q => q) (fun c q => ?_) fun c xs q => ?_
      · rw [upd_ne (ne_of_none q na)]
        exact q
      · rw [upd_ne (ne_of_none q na)]
        exact q
end
theorem flying_kept {B h h' : Heap} {l : List Env} {a : Addr} {Z : Obj → Prop} (f : HandSPX.FlyingZ B l a Z h) (k : ∀ b o, h.get? b = some o → h'.get? b = some o) : HandSPX.FlyingZ B l a Z h' := by
  obtain ⟨f1, f2, f3, oe, vs, T, oT, ts, t1, t2, t3, t4, t5, t6, t7, t8, t9⟩ := f
  exact ⟨fun b o e => k b o (f1 b o e), f2, f3.of_keeps fun b o e _ => ⟨o, k b o e, rfl⟩, oe, vs, T, oT, ts, k _ _ t1, t2, t3, t4, t5, t6, k _ _ t7, t8, t9⟩
/-- what the clause 'except (A, B, C) as n' wishes of an exception of the body: slot i is n's; the exception is tracked -/
def wKeep (K : PySem.W.Frag) (cs : List Value) (i : Nat) (ts : Addr → TS) (Wout : WX) (D : Ends) : WX := fun cls d σ H =>
  ∃ b, PySem.W.exmAny K cls cs = some b ∧
    (b = true → ∀ a, H a = none → ts a { nx := fun σ' H' => D.nx (σ'.set i none) H', rt := D.rt, bk := fun σ' H' => D.bk (σ'.set i none) H', ct := fun σ' H' => D.ct (σ'.set i none) H' } (σ.set i (some (.ref a))) (upd H a (ExK cls d a))) ∧
    (b = false → Wout cls d σ H)
/-- a module's own class by its name -/
structure Nm (X : Cx) (x : Str) (C : Addr) : Prop where
  gl : Gl X x
  db : (x == ("__debug__" : Str)) = false
  mg : X.mg x = some (.ref C)
section
variable {X : Cx} {x1 x2 x3 n : Str} {C1 C2 C3 : Addr} {i : Nat} {body suite : List Stmt} {b₀ : Stmt} {p1 p2 p3 tp pos pos' : Pos} {tb : WX → TS} {ts : Addr → TS} {Wout : WX} {cx}
theorem ps_try_keep (hs : X.stack = X.env :: X.outer) (hf : X.env.frame = some X.env.locals) (hex : X.ex = []) (hN : X.N.Nodup) (hi : X.N[i]? = some n) (hln : X.env.kindOf n = some .local)
    (n1 : Nm X x1 C1) (n2 : Nm X x2 C2) (n3 : Nm X x3 C3) (tk : Takes X Wout)
    (hb : ∀ (W : WX) (pn : List (Addr × Obj)) (xe : Value → Shared → Prop), Takes (X.tr pn xe) W → PassesOwn (model X.prog X.w) X.A X.env xe → PSs (X.tr pn xe) body (tb W))
    (hsu : ∀ (a : Addr) (pn : List (Addr × Obj)), PSs (X.suite a pn) (b₀ :: suite) (ts a)) :
    PS X (.Try body [.ExceptHandler (some (.Tuple [.Name x1 p1, .Name x2 p2, .Name x3 p3] cx tp)) (some n) (b₀ :: suite) pos'] [] [] pos) (fun D σ H => tb (wKeep X.K [.ref C1, .ref C2, .ref C3] i ts Wout D) D σ H) := by
  refine ⟨fun pins s σ H D I h => ?_⟩
  have ok := I.ok
  have frs2 : X.A.frames = some (X.env :: X.outer) := by rw [ok.frames, hs]
  refine wpAny_Try_except ?_
  refine wpAny_mono ((hb (wKeep X.K [.ref C1, .ref C2, .ref C3] i ts Wout D) (X.pn ++ pins)
    (fun e s₁ => wpAny (model X.prog X.w) X.A (noteFrame e X.env) (fun _ s₂ => wpAny (model X.prog X.w) X.A (setFlight e none) (fun _ s₃ => wpAny (model X.prog X.w) X.A
      (handleBy e X.env [.ExceptHandler (some (.Tuple [.Name x1 p1, .Name x2 p2, .Name x3 p3] cx tp)) (some n) (b₀ :: suite) pos']) (SP X pins D) X.xe s₃) X.xe s₂) X.xe s₁)
    (fun u s' air => ?_) PassesOwn.looking).run [] s σ H D (I.toTry _) h) (fun f s1 hsp => ?_) (fun e s1 he => he)
  · obtain ⟨a, B, sI, pins', σ', H', cls, d, rfl, J', nb, up, sky, na, os, ag, b, hb1, hyes, hno⟩ := air
    have J : Inv X pins σ' H' sI := J'.ofTry ok
    have sky2 : Sky B (X.env :: X.outer) a (Zc cls d) X.env.locals s'.heap := by
      rw [← hs]
      exact sky
    refine Sky.land Zc.steady frs2 hf sky2 fun h3 fl3 up3 => ?_
    obtain ⟨oe3, vs3, he3, hz3, hd3⟩ := fl3.there
    have nfr : a ∉ frs (X.env :: X.outer) := fun hm => by
      obtain ⟨_, o', e', hnf⟩ := fl3.2.2.1.mem hm
      rw [he3] at e'
      cases e'
      exact hnf _ hd3
    have nL : a ≠ X.env.locals := fun z => nfr (List.mem_filterMap.mpr ⟨X.env, List.mem_cons_self, by rw [hf, z]⟩)
    have nF : a ∉ X.fs := fun hm => by
      obtain ⟨e, he, q⟩ := List.mem_filterMap.mp hm
      exact nfr (List.mem_filterMap.mpr ⟨e, List.mem_cons_of_mem _ he, q⟩)
    -- it was not there when the call began
    have aI : sI.heap.get? a = none := by
      cases e : sI.heap.get? a with
      | none => rfl
      | some o =>
        have z := nb a o e (by rw [hs]; exact nfr)
        rw [fl3.2.1] at z
        cases z
    have a0 : X.s_0.heap.get? a = none := by
      cases e : X.s_0.heap.get? a with
      | none => rfl
      | some o =>
        obtain ⟨o', z⟩ := J.base.there a o e (by rw [hex]; exact fun z => nomatch z)
        rw [aI] at z
        cases z
    have nP : ∀ p ∈ X.pn ++ pins, p.1 ≠ a := fun p hp z => by
      have q := (J.pin p hp).1
      rw [z, aI] at q
      cases q
    have trk : ∀ {h4 : Heap} {s4 : Shared}, s4.heap = h4 → HandSPX.FlyingZ B (X.env :: X.outer) a (Zc cls d) h4 → Inv X pins σ' H' s4 → Inv X pins σ' (upd H' a (ExK cls d a)) s4 := fun {h4 s4} e4 fl4 J4 => by
      subst e4
      obtain ⟨oe4, vs4, he4, hz4, hd4⟩ := fl4.there
      refine track J4 a0 na nL (fun x c e z => ?_) nP (exK_ok he4 hz4 hd4)
      obtain ⟨v, o, eo, ed⟩ := J4.cell x c e
      rw [z, he4] at eo
      cases eo
      rw [hd4] at ed
      cases ed
    have J3 : Inv X pins σ' H' { s' with heap := h3 } := J.landed nb fl3.1 (up.trans up3) os ag
    have S3 : Inv (X.suite a (X.pn ++ pins)) [] σ' H' { s' with heap := h3 } :=
      ⟨J3.ok.suite _ _, J3.os, J3.bare, J3.base, J3.loc, J3.cell, J3.free, J3.freeC, fun p hp => J3.pin p (by rw [List.append_nil] at hp; exact hp), J3.hok, J3.len⟩
    refine wpAny_handleBy_cons (codeAny_handlers_test ?_) (by intro q; cases q)
    have own : ∀ {x : Str} {C : Addr} {p : Pos} {Q : Value → Shared → Prop} {E : Value → Shared → Prop}, Nm X x C → Q (.ref C) { s' with heap := h3 } →
        wpAny (model X.prog X.w) (X.A.mark (some (.ref a))) (eval (.Name x p) X.env) Q E { s' with heap := h3 } := fun {x C p Q E} z q => ld_glob (X := X.suite a (X.pn ++ pins)) S3 z.gl z.mg q z.db
    have tup : ∀ {Q : Value → Shared → Prop} {E : Value → Shared → Prop}, Q (.ref h3.objs.size) { s' with heap := h3.push { cls := .type "tuple", data := .seq [Value.ref C1, .ref C2, .ref C3].toArray } } →
        wpAny (model X.prog X.w) (X.A.mark (some (.ref a))) (eval (.Tuple [.Name x1 p1, .Name x2 p2, .Name x3 p3] cx tp) X.env) Q E { s' with heap := h3 } := fun {Q E} q => by
      refine wpAny_Tuple_spliced ?_
      show wpAny _ _ (spliced ((false, eval (.Name x1 p1) X.env) :: (false, eval (.Name x2 p2) X.env) :: (false, eval (.Name x3 p3) X.env) :: [])) _ _ _
      exact Calls.spliced_cons (own n1 (Calls.spliced_cons (own n2 (Calls.spliced_cons (own n3 (Calls.spliced_nil ⟨by show 3 ≤ sizeLine; decide, q⟩))))))
    refine tup ?_
    have k4 : ∀ b o, h3.get? b = some o → (h3.push { cls := .type "tuple", data := .seq [Value.ref C1, .ref C2, .ref C3].toArray }).get? b = some o := fun b o e => Heap.get?_push_of_some _ e
    have t4 := Heap.get?_push_size h3 (o := { cls := .type "tuple", data := .seq [Value.ref C1, .ref C2, .ref C3].toArray }) rfl
    generalize h3.push { cls := .type "tuple", data := .seq [Value.ref C1, .ref C2, .ref C3].toArray } = h4 at k4 t4 ⊢
    have fl4 := flying_kept fl3 k4
    have J4 : Inv X pins σ' H' { s' with heap := h4 } := J3.kept k4
    have LT : PySem.W.Looks (model X.prog X.w) h4 (typeOf (.ref a)) cls := fun A Q E s k q => wpAny_typeOf_ref (k _ _ (k4 _ _ he3)) (by rw [hz3.1]; exact q)
    refine (PySem.W.exm_tup3 (M := model X.prog X.w) J4.kIn LT t4 hb1).here ?_
    cases b with
    | true =>
      refine codeAny_handlers_suite_as ?_
      refine HandSPX.lands_againZ fl4 fun h5 fl5 up5 => ?_
      have J5 : Inv X pins σ' H' { s' with heap := h5 } := J.landed nb fl5.1 ((up.trans up3).trans ((Heap.UpToSlots.of_keeps k4).trans up5)) os ag
      have T5 := trk rfl fl5 J5
      have S5 : Inv (X.suite a (X.pn ++ pins)) [] σ' (upd H' a (ExK cls d a)) { s' with heap := h5 } :=
        ⟨T5.ok.suite _ _, T5.os, T5.bare, T5.base, T5.loc, T5.cell, T5.free, T5.freeC, fun p hp => T5.pin p (by rw [List.append_nil] at hp; exact hp), T5.hok, T5.len⟩
      refine store_ok (X := X.suite a (X.pn ++ pins)) (v := .ref a) S5 hN hi (.inl hln) rfl (fun s6 S6 => ?_) (.inr hln)
      refine wpAny_mono ((hsu a (X.pn ++ pins)).run [] s6 _ _ _ S6 (hyes rfl a na)) (fun f s7 hsp => ?_) (fun _ _ z => False.elim z)
      have back : ∀ {σ7 : L2.St} {H7 : Hp}, Inv (X.suite a (X.pn ++ pins)) [] σ7 H7 s7 → Inv X pins σ7 H7 s7 := fun {σ7 H7} S7 =>
        ⟨ok, S7.os, S7.bare, S7.base, S7.loc, S7.cell, S7.free, S7.freeC, fun p hp => S7.pin p (by rw [List.append_nil]; exact hp), S7.hok, S7.len⟩
      cases f with
      | next =>
        obtain ⟨σ7, H7, S7, q7⟩ := hsp
        exact gone_ok (back S7) hN hi hln fun s8 J8 => ⟨_, _, J8, q7⟩
      | brk =>
        obtain ⟨σ7, H7, S7, q7⟩ := hsp
        exact gone_ok (back S7) hN hi hln fun s8 J8 => ⟨_, _, J8, q7⟩
      | cont =>
        obtain ⟨σ7, H7, S7, q7⟩ := hsp
        exact gone_ok (back S7) hN hi hln fun s8 J8 => ⟨_, _, J8, q7⟩
      | ret u =>
        obtain ⟨v7, σ7, H7, S7, r7, q7⟩ := hsp
        exact gone_ok (back S7) hN hi hln fun s8 J8 => ⟨_, _, _, J8, r7, q7⟩
    | false =>
      refine wpAny_handleBy_nil ?_
      obtain ⟨k1, k2, k3, oe, vs, T, oT, ts', he, hz, hd, h1, hr⟩ := id fl4
      unfold PySem.passOn
      refine wpAny_bind (wpAny_field he hd h1 ?_)
      rw [if_neg (by simp : ¬ ((Value.ref T == Value.none) = true))]
      have fin : wpAny (model X.prog X.w) X.A (setFlight (.ref a) X.env.frame) (fun _ s5 => wpAny (model X.prog X.w) X.A (throw (.ref a) : Sem Flow) (SP X pins D) X.xe s5) X.xe { s' with heap := h4 } := by
        rw [hf]
        refine HandSPX.setFlight_upZ fl4 fun h5 hh5 up5 => wpAny_throw (tk _ _ ?_)
        exact ⟨a, B, sI, pins, σ', H', cls, d, rfl, J, nb, (up.trans up3).trans ((Heap.UpToSlots.of_keeps k4).trans up5), .inr (.inr (by rw [hs]; exact hh5)), na, os, ag, hno rfl⟩
      first
        | exact wpAny_bind (wpAny_pure (wpAny_bind fin))
        | exact wpAny_bind fin
  · cases f with
    | next =>
      obtain ⟨σ', H', J', q⟩ := hsp
      exact wpAny_execs_nil ⟨σ', H', J'.ofTry ok, q⟩
    | brk =>
      obtain ⟨σ', H', J', q⟩ := hsp
      exact ⟨σ', H', J'.ofTry ok, q⟩
    | cont =>
      obtain ⟨σ', H', J', q⟩ := hsp
      exact ⟨σ', H', J'.ofTry ok, q⟩
    | ret u =>
      obtain ⟨v, σ', H', J', r, q⟩ := hsp
      exact ⟨v, σ', H', J'.ofTry ok, r, q⟩
end
end Xk
set_option Elab.async false
set_option linter.all false
set_option maxRecDepth 100000
set_option maxHeartbeats 4000000
set_option pp.maxSteps 400
set_option pp.deepTerms false
namespace Xk
open PySem PySem.Spec PyProof.Rows L2
/-- what an own exception class says, so that its kept instances are read and asked -/
structure XcC (K : PySem.W.Frag) (C : Addr) : Prop where
  cl : (PySem.W.clsIn K C).isSome = true
  ga : PySem.W.findIn K (.ref C) "__getattribute__" = some (some (.builtin "BaseException.__getattribute__"))
  gg : PySem.W.findIn K (.ref C) "__getattr__" = some none
  sb : PySem.W.subIn K (.ref C) (.type "BaseException") = some true
  hd : PySem.W.hasDictIn K C = true
  ha : PySem.W.findIn K (.ref C) "__class__" = some (some (.builtin "object.__class__"))
  hn : PySem.W.specialIn K (.builtin "object.__class__") "__get__" = some (some (.builtin "getset_descriptor.__get__"))
  ht : PySem.W.takesIn K (.builtin "object.__class__") = some true
  hm : PySem.W.mroIn K C (.type "object") = some true
/-- a kept exception of the class at C with the fields fs -/
def Kept (H : Hp) (a C : Addr) (fs : List (Str × V)) : Prop := ∃ d, H a = some (ExK (.ref C) (some d) a) ∧ H d = some (.xd fs)
theorem Kept.same {H H' : Hp} {a C : Addr} {fs : List (Str × V)} (k : Kept H a C fs) (s : L2.Same H H') : Kept H' a C fs := by
  obtain ⟨d, e1, e2⟩ := k
  exact ⟨d, s _ _ e1, s _ _ e2⟩
section
variable {X : Cx} {pins : List (Addr × Obj)} {σ : L2.St} {H : Hp} {s : Shared}
theorem Kept.inst {a C : Addr} {fs : List (Str × V)} (I : Inv X pins σ H s) (k : Kept H a C fs) :
    ∃ (oe od : Obj) (mA : Str → Option Value), PySem.W.InstAt s.heap a oe C (some od) ∧ (∀ n, PySem.W.lookIn n od = some (mA n)) ∧ ∀ f, RelO (fs.lookup f) (mA f) := by
  obtain ⟨d, e1, e2⟩ := k
  obtain ⟨oe, he, hz, vs, hv⟩ := exK_at I.hok e1
  have hx : ObjOk X.prog X.w H s.heap d (.xd fs) := I.hok d _ e2
  obtain ⟨mA, hns, hr⟩ := hx
  obtain ⟨od, ho, hl⟩ := lookIn_ns hns
  refine ⟨oe, od, mA, ⟨he, hz.1, by unfold PySem.W.notCls; rw [hv] <;> rfl, by rw [hz.2]; exact ho⟩, hl, hr⟩
end
/-- e.f of a kept exception -/
def tKf (C : Addr) (f : Str) (te : TE) : TE := fun σ H Q => te σ H fun x H1 => ∃ (a : Addr) (fs : List (Str × V)) (v : V), x = .ref a ∧ Kept H1 a C fs ∧ fs.lookup f = some v ∧ Q v H1
theorem pe_kf {X : Cx} {C : Addr} {e : Expr} {te : TE} {pos : Pos} {n : Str} (T : XcC X.K C) (hno : PySem.W.findIn X.K (.ref C) n = some none) (he : PE X e te)
    (hb : attributeBase e n X.env (eval e X.env) = eval e X.env := by rfl) : PE X (.Attribute e n pos) (tKf C n te) := by
  refine ⟨fun pins s σ H Q I h => attr_of hb (thn (he.run pins s σ H _ I h) fun u s1 z => ?_)⟩
  obtain ⟨x, H1, I1, rx, a, fs, v, ex, k, l, q⟩ := z
  subst ex
  obtain rfl : u = Value.ref a := rx
  obtain ⟨oe, od, mA, J, hl, hr⟩ := k.inst I1
  obtain ⟨y, hy, ry⟩ := RelO.some_of (v := v) (o := mA n) (by rw [← l]; exact hr n)
  exact HandSPX.exc_get I1.kIn J T.ga T.gg T.sb (PySem.W.findObj_own T.hd hno rfl (by rw [hl, hy])) (handed_of ry) ⟨v, H1, I1.tok _, ry, q⟩
/-- isinstance(e, c), isinstance(e, (c1, ..)) of a kept exception -/
def rIsK (K : PySem.W.Frag) (C : Addr) : List V → Hp → VK → Prop := fun xs H Q => ∃ (a : Addr) (fs : List (Str × V)) (c : V) (u : Value) (b : Bool), xs = [.ref a, c] ∧ Kept H a C fs ∧ ClsV c u ∧ PySem.W.kitOne K (.ref C) u = some b ∧ Q (.bl b) H
def rIsKT (K : PySem.W.Frag) (C : Addr) : List V → Hp → VK → Prop := fun xs H Q => ∃ (a tp : Addr) (fs : List (Str × V)) (cs : List V) (us : List Value) (b : Bool), xs = [.ref a, .ref tp] ∧ Kept H a C fs ∧
  H tp = some (.tup cs) ∧ Paired ClsV cs us ∧ PySem.W.kitAny K (.ref C) us = some b ∧ Q (.bl b) H
theorem call_isK {X : Cx} {C : Addr} (T : XcC X.K C) : CallR X (.builtin "isinstance") (rIsK X.K C) := by
  intro pins s σ H xs us Q I r h
  obtain ⟨a, fs, c, u, b, rfl, k, hc, e, q⟩ := h
  obtain ⟨u1, u2, rfl, r1, r2⟩ := vals2 r
  have e2 := hc.eq r2
  subst e2
  cases (show u1 = Value.ref a from r1)
  obtain ⟨oe, od, mA, J, _, _⟩ := k.inst I
  exact PySem.W.kia_one (PySem.W.kitx_exc (ox := oe) (od := some od) T.cl T.ga T.gg T.sb T.ha T.hn T.ht T.hm) I.kIn J e (fun z => nomatch z) fun tk => ⟨.bl b, H, I.tok tk, rfl, q⟩
theorem call_isKT {X : Cx} {C : Addr} (T : XcC X.K C) : CallR X (.builtin "isinstance") (rIsKT X.K C) := by
  intro pins s σ H xs us Q I r h
  obtain ⟨a, tp, fs, cs, ws, b, rfl, k, hT, hc, e, q⟩ := h
  obtain ⟨u1, u2, rfl, r1, r2⟩ := vals2 r
  cases (show u1 = Value.ref a from r1)
  cases (show u2 = Value.ref tp from r2)
  obtain ⟨oe, od, mA, J, _, _⟩ := k.inst I
  have ht : ObjOk X.prog X.w H s.heap tp (.tup cs) := I.hok tp _ hT
  obtain ⟨_, its, rv, o, h1, h2, n, h3⟩ := ht
  have e3 := ClsV.all hc rv
  subst e3
  obtain ⟨oc, od2, dt, sl⟩ := o
  simp only at h2 h3
  subst h2 h3
  exact PySem.W.kia_tup (PySem.W.kitx_exc (ox := oe) (od := some od) T.cl T.ga T.gg T.sb T.ha T.hn T.ht T.hm) I.kIn J h1 e (fun z => nomatch z) fun tk => ⟨.bl b, H, I.tok tk, rfl, q⟩
/-! ### B.__init__(self, ..), B an own class over ValueError without own __init__ -/
structure BiC (K : PySem.W.Frag) (B : Addr) : Prop where
  rd : PySem.W.readsIn K B (.type "type") = true
  sp : PySem.W.specialIn K (.ref B) "__getattribute__" = some (some (.builtin "type.__getattribute__"))
  fi : PySem.W.findCls K (.ref B) (.type "type") "__init__" = some (.val (.builtin "ValueError.__init__"))
theorem pe_binit {X : Cx} {B : Addr} {x : Str} {e : Expr} {es : List Expr} {ta : TA} {p1 p2 pos : Pos} {pl : Sem Bool} (T : BiC X.K B) (gl : Gl X x) (mg : X.mg x = some (.ref B)) (ha : PA X (e :: es) ta) (hdb : (x == ("__debug__" : Str)) = false := by decide)
    (hc : eval (.Call (.Attribute (.Name x p1) "__init__" p2) (e :: es) [] pos) X.env = (do
      let ov ← eval (.Name x p1) X.env
      standAt p2.atName
      let (f, first) ← holding [ov] (getMethod ov "__init__" pl)
      callWith pos f first (backTo pos (starEach (e :: es) X.env)) (backToKw pos (keywordEach [] X.env))) := by rfl)
    (he : starEach (e :: es) X.env = (false, eval e X.env) :: starEach es X.env := by rfl) (hpl : (backTo pos (starEach es X.env)).any (·.1) = false := by rfl) :
    PE X (.Call (.Attribute (.Name x p1) "__init__" p2) (e :: es) [] pos) (tVeI X.K ta) := by
  refine ⟨fun pins s σ H Q I h => PySem.W.methodCall_KW (ld_glob I gl mg ?_ hdb) hc⟩
  refine PySem.W.method_cls I.kIn T.sp (PySem.W.cls_value I.kIn T.rd T.fi (by decide +kernel) ?_)
  show wpAny _ _ (callWith pos (Value.builtin "ValueError.__init__") [] (backTo pos (starEach (e :: es) X.env)) []) _ _ _
  refine PyProof.Rows.callWith_method1 (thn (ha.run pos pins _ σ H _ (I.tok _) h) fun us s1 z => ?_) he hpl
  obtain ⟨vs, H1, I1, r1, a, C, ws, ev, hl, Tx, ea, q⟩ := z
  subst ev
  cases r1 with
  | @cons _ u0 _ ur ra rw' =>
    obtain rfl : u0 = Value.ref a := ra
    refine oinit_ok Tx I1 ea ?_ fun s' J => ⟨.non, H1, J, rfl, q⟩
    rw [← Paired.length rw', sizeLine_eq]
    omega
/-! ### calls in a try's body: what is raised is wished for at the slots -/
section
variable {X : Cx} {CX : CXT} {k n : Nat} {f C : Addr} {fd : FuncData} {ps ks : List Str} {sp : Sp} {dvs : List V} {ds : List Value} {E : L2.St → XK} {x : Str} {p pos : Pos} {e : Expr} {es : List Expr} {kws : List Keyword} {t tk : TA}
  {g : List Value → List Value → List Value} {gV : List V → List V → List V}
def tMakeS (C : Addr) (sp : Sp) (dvs : List V) (E : L2.St → XK) (t : TA) : TE := fun σ H Q => t σ H fun vs H1 => ∀ x dx, H1 x = none → H1 dx = none → dx ≠ x →
  sp (.ref x :: (vs ++ dvs)) (upd (upd H1 dx (.own x)) x (.ins C dx [])) (fun v H2 => v = .non ∧ Q (.ref x) H2) (E σ)
theorem pe_makeS (M : Mk X.K C f) (F : FnOk X.prog X.w X.K X.mg X.base CX k f fd ps sp) (room : Room (k + 1) X.A) (gl : Gl X x) (mg : X.mg x = some (.ref C)) (bd : Binds X.K fd ps ds) (rd : Vals dvs ds) (px : ∀ σ, PassesAt CX X σ (E σ))
    (ha : PA X (e :: es) t) (hdb : (x == ("__debug__" : Str)) = false := by decide) (he : starEach (e :: es) X.env = (false, eval e X.env) :: starEach es X.env := by rfl) (hpl : (backTo pos (starEach es X.env)).any (·.1) = false := by rfl) :
    PE X (.Call (.Name x p) (e :: es) [] pos) (tMakeS C sp dvs E t) := by
  refine ⟨fun pins s σ H Q I h => wpAny_Call_Name_kw (ld_glob I gl mg ?_ hdb)⟩
  refine PySem.W.callWith_K (h₀ := X.base) I.ok.mod.kin M.kp (thn (ha.run pos pins s σ H _ I h) fun us s1 z => ?_) he hpl
  obtain ⟨vs, H1, I1, r, q⟩ := z
  refine ⟨I1.kIn, ?_⟩
  have q1 := q (s1.heap.objs.size + 1) s1.heap.objs.size (I1.hok.fresh (Nat.le_succ _)) (I1.hok.fresh (Nat.le_refl _)) (Nat.ne_of_lt (Nat.lt_succ_self _))
  have I2 := Inv.made (C := C) I1
  have r2 : Vals (V.ref (s1.heap.objs.size + 1) :: (vs ++ dvs)) (Value.ref (s1.heap.objs.size + 1) :: (us ++ ds)) := .cons rfl (r.append rd)
  have many : (Value.ref (s1.heap.objs.size + 1) :: us ++ ds).length = ps.length := (r2.length.symm.trans (F.len _ _ _ _ q1))
  refine wpAny_call (make_map (f := f) I1.kIn M.makes M.init (beq_iff_eq.mp M.fn) (codeAny_mono (F.run _ X.stack _ _ ⟨Value.ref (s1.heap.objs.size + 1) :: us, []⟩ (Value.ref (s1.heap.objs.size + 1) :: (us ++ ds)) _ _ (E σ)
    (room.make C us []) (I2.env0.make C us []) (bd _ (Value.ref (s1.heap.objs.size + 1) :: us) I2.kIn many) r2 q1) fun r s' z => ?_))
  cases r with
  | error e => exact px σ pins _ _ e s' I2 z
  | ok fl =>
    cases fl with
    | ret u =>
      obtain ⟨v, H', I3, rv, ev, q3⟩ := I2.after z
      subst ev
      exact ⟨rv, ⟨V.ref (s1.heap.objs.size + 1), H', I3, rfl, q3⟩⟩
    | next => exact False.elim z
    | brk => exact False.elim z
    | cont => exact False.elim z
def tMakeKS (C : Addr) (m : Nat) (sp : Sp) (gV : List V → List V → List V) (E : L2.St → XK) (tk : TA) : TE := fun σ H Q => tk σ H fun zs H2 => zs.length = m ∧
  ∀ x dx, H2 x = none → H2 dx = none → dx ≠ x → sp (gV [.ref x] zs) (upd (upd H2 dx (.own x)) x (.ins C dx [])) (fun v H3 => v = .non ∧ Q (.ref x) H3) (E σ)
theorem pe_makeKS (M : Mk X.K C f) (F : FnOk X.prog X.w X.K X.mg X.base CX k f fd ps sp) (room : Room (k + 1) X.A) (gl : Gl X x) (mg : X.mg x = some (.ref C)) (kb : KBn X.K fd ps 1 ks g gV) (px : ∀ σ, PassesAt CX X σ (E σ)) (pk : PK X kws tk)
    (hall : (backToKw pos (keywordEach kws X.env)).all (·.1.isSome) = true := by rfl) (hks : (backToKw pos (keywordEach kws X.env)).filterMap (·.1) = ks := by rfl) (hdb : (x == ("__debug__" : Str)) = false := by decide)
    (hpl : ((backTo pos (starEach [] X.env)).any (·.1) || (backToKw pos (keywordEach kws X.env)).any (·.1.isNone)) = false := by rfl) :
    PE X (.Call (.Name x p) [] kws pos) (tMakeKS C ks.length sp gV E tk) := by
  refine ⟨fun pins s σ H Q I h => wpAny_Call_Name_kw (ld_glob I gl mg ?_ hdb)⟩
  refine PySem.W.callWith_KW0 (h₀ := X.base) I.ok.mod.kin M.kp hall (thn (pk.run pos pins s σ H _ I h) fun ws s1 z => ?_) hpl
  obtain ⟨zs, H1, I1, rz, l2, q⟩ := z
  refine ⟨I1.kIn, ?_⟩
  rw [hks]
  have q1 := q (s1.heap.objs.size + 1) s1.heap.objs.size (I1.hok.fresh (Nat.le_succ _)) (I1.hok.fresh (Nat.le_refl _)) (Nat.ne_of_lt (Nat.lt_succ_self _))
  have I2 := Inv.made (C := C) I1
  have r1 : Vals [V.ref (s1.heap.objs.size + 1)] [Value.ref (s1.heap.objs.size + 1)] := .cons rfl .nil
  have r2 := kb.rel r1 rz
  refine wpAny_call (make_map (f := f) I1.kIn M.makes M.init (beq_iff_eq.mp M.fn) (codeAny_mono (F.run _ X.stack _ _ ⟨[Value.ref (s1.heap.objs.size + 1)], ks.zip ws⟩ (g [Value.ref (s1.heap.objs.size + 1)] ws) _ _ (E σ)
    (room.make C [] (ks.zip ws)) (I2.env0.make C [] (ks.zip ws)) (kb.to _ [Value.ref (s1.heap.objs.size + 1)] ws I2.kIn rfl (rz.length.symm.trans l2)) r2 q1) fun r s' z => ?_))
  cases r with
  | error e => exact px σ pins _ _ e s' I2 z
  | ok fl =>
    cases fl with
    | ret u =>
      obtain ⟨v, H', I3, rv, ev, q3⟩ := I2.after z
      subst ev
      exact ⟨rv, ⟨V.ref (s1.heap.objs.size + 1), H', I3, rfl, q3⟩⟩
    | next => exact False.elim z
    | brk => exact False.elim z
    | cont => exact False.elim z
def tCallKS (m : Nat) (sp : Sp) (gV : List V → List V → List V) (E : L2.St → XK) (tk : TA) : TE := fun σ H Q => tk σ H fun zs H2 => zs.length = m ∧ sp (gV [] zs) H2 Q (E σ)
theorem pe_callKS (F : FnOk X.prog X.w X.K X.mg X.base CX k f fd ps sp) (room : Room k X.A) (gl : Gl X x) (mg : X.mg x = some (.ref f)) (kp : PySem.W.keepIn X.K (.ref f) = true) (kb : KBn X.K fd ps 0 ks g gV) (px : ∀ σ, PassesAt CX X σ (E σ)) (pk : PK X kws tk)
    (hall : (backToKw pos (keywordEach kws X.env)).all (·.1.isSome) = true := by rfl) (hks : (backToKw pos (keywordEach kws X.env)).filterMap (·.1) = ks := by rfl) (hdb : (x == ("__debug__" : Str)) = false := by decide)
    (hpl : ((backTo pos (starEach [] X.env)).any (·.1) || (backToKw pos (keywordEach kws X.env)).any (·.1.isNone)) = false := by rfl) :
    PE X (.Call (.Name x p) [] kws pos) (tCallKS ks.length sp gV E tk) := by
  refine ⟨fun pins s σ H Q I h => wpAny_Call_Name_kw (ld_glob I gl mg ?_ hdb)⟩
  refine PySem.W.callWith_KW0 (h₀ := X.base) I.ok.mod.kin kp hall (thn (pk.run pos pins s σ H _ I h) fun ws s1 z => ?_) hpl
  obtain ⟨zs, H1, I1, rz, l2, q⟩ := z
  refine ⟨I1.kIn, ?_⟩
  rw [hks]
  have rn : Vals [] [] := .nil
  have r2 := kb.rel rn rz
  refine wpAny_call (codeAny_mono (F.run X.A X.stack s1 H1 ⟨[], ks.zip ws⟩ (g [] ws) (gV [] zs) Q (E σ) room I1.env0 (kb.to s1 [] ws I1.kIn rfl (rz.length.symm.trans l2)) r2 q) fun r s' z => ?_)
  cases r with
  | error e => exact px σ pins _ _ e s' I1 z
  | ok fl =>
    cases fl with
    | ret u => exact I1.after z
    | next => exact False.elim z
    | brk => exact False.elim z
    | cont => exact False.elim z
end
end Xk
set_option Elab.async false
set_option linter.all false
set_option maxRecDepth 100000
set_option maxHeartbeats 4000000
set_option pp.maxSteps 400
set_option pp.deepTerms false
/-! Things of any kind: texts, numbers, truths, None, and lists, tuples, dicts of these, at any depth. -/
namespace Az
open PySem PySem.Spec PyProof.Rows L2
def keyD : Key → PyData
  | .inl i => .int i
  | .inr x => .str x
mutual
inductive Dz (K : PySem.W.Frag) (H : Hp) : V → PyData → Prop
  | non : Dz K H .non .none
  | bl (b : Bool) : Dz K H (.bl b) (.bool b)
  | int (i : Int) : Dz K H (.int i) (.int i)
  | str (x : Str) : Dz K H (.str x) (.str x)
  | lst {a : Addr} {xs : List V} {ds : List PyData} : H a = some (.lst xs) → a ≠ sysModules → DzAll K H xs ds → Dz K H (.ref a) (.list ds)
  | tup {a : Addr} {xs : List V} {ds : List PyData} : H a = some (.tup xs) → DzAll K H xs ds → Dz K H (.ref a) (.tuple ds)
  | dct {a : Addr} {kvs : List (Key × V)} {ds : List (PyData × PyData)} : H a = some (.dK kvs) → DzKv K H kvs ds → Dz K H (.ref a) (.dict ds)
inductive DzAll (K : PySem.W.Frag) (H : Hp) : List V → List PyData → Prop
  | nil : DzAll K H [] []
  | cons {v : V} {vs : List V} {d : PyData} {ds : List PyData} : Dz K H v d → DzAll K H vs ds → DzAll K H (v :: vs) (d :: ds)
inductive DzKv (K : PySem.W.Frag) (H : Hp) : List (Key × V) → List (PyData × PyData) → Prop
  | nil : DzKv K H [] []
  | cons {k : Key} {v : V} {kvs : List (Key × V)} {d : PyData} {ds : List (PyData × PyData)} : Dz K H v d → DzKv K H kvs ds → DzKv K H ((k, v) :: kvs) ((keyD k, d) :: ds)
end
section
variable {K : PySem.W.Frag} {H H' : Hp}
mutual
/-- what is read of a thing stays while its objects do -/
theorem Dz.keep (s : ∀ b o, H b = some o → (∀ x, o ≠ .own x) → H' b = some o) : ∀ {v : V} {d : PyData}, Dz K H v d → Dz K H' v d
  | _, _, .non => .non
  | _, _, .bl b => .bl b
  | _, _, .int i => .int i
  | _, _, .str x => .str x
  | _, _, .lst e n r => .lst (s _ _ e (fun _ z => by cases z)) n (DzAll.keep s r)
  | _, _, .tup e r => .tup (s _ _ e (fun _ z => by cases z)) (DzAll.keep s r)
  | _, _, .dct e r => .dct (s _ _ e (fun _ z => by cases z)) (DzKv.keep s r)
theorem DzAll.keep (s : ∀ b o, H b = some o → (∀ x, o ≠ .own x) → H' b = some o) : ∀ {v : List V} {d : List PyData}, DzAll K H v d → DzAll K H' v d
  | _, _, .nil => .nil
  | _, _, .cons h r => .cons (Dz.keep s h) (DzAll.keep s r)
theorem DzKv.keep (s : ∀ b o, H b = some o → (∀ x, o ≠ .own x) → H' b = some o) : ∀ {v : List (Key × V)} {d : List (PyData × PyData)}, DzKv K H v d → DzKv K H' v d
  | _, _, .nil => .nil
  | _, _, .cons h r => .cons (Dz.keep s h) (DzKv.keep s r)
end
theorem Dz.same {v : V} {d : PyData} (h : Dz K H v d) (s : L2.Same H H') : Dz K H' v d := h.keep fun b o e _ => s b o e
theorem DzAll.same {v : List V} {d : List PyData} (h : DzAll K H v d) (s : L2.Same H H') : DzAll K H' v d := h.keep fun b o e _ => s b o e
/-- the kind of a thing -/
def kindD : PyData → String
  | .none => "NoneType"
  | .bool _ => "bool"
  | .int _ => "int"
  | .str _ => "str"
  | .list _ => "list"
  | .tuple _ => "tuple"
  | .dict _ => "dict"
theorem Dz.ty {v : V} {d : PyData} (h : Dz K H v d) : TyX K H v (.type (kindD d)) := by
  cases h with
  | non => exact .base .non
  | bl b => exact .base (.bl b)
  | int i => exact .base (.int i)
  | str x => exact .base (.str x)
  | lst e _ _ => exact .base (.lst e)
  | tup e _ => exact .base (.tup e)
  | dct e _ => exact .base (.dK e)
end
section
variable {X : Cx} {pins : List (Addr × Obj)} {σ : L2.St} {H : Hp} {s : Shared}
theorem pairs_keys {P : Program} {w : World} : ∀ {es : List DictEntry} {vs : List (Key × Value)}, PySem.Pairs (mixKind P w) es vs → ∃ as, ReadsAll s.heap (es.map (·.key)) (vs.map fun p => keyD p.1) as ∧ as = []
  | _, _, .nil => ⟨[], .nil, rfl⟩
  | e :: es, (k, u) :: vs, .cons h1 h2 r => by
    obtain ⟨as, q, rfl⟩ := pairs_keys r
    rcases keyIs_shape (show keyIs k e.key = true from h1) with ⟨i, t, rfl, ek⟩ | ⟨x, t, rfl, ek⟩
    · refine ⟨[] ++ [], .cons ?_ q, rfl⟩
      show Reads s.heap e.key (.int i) []
      rw [ek]
      exact .int i t
    · refine ⟨[] ++ [], .cons ?_ q, rfl⟩
      show Reads s.heap e.key (.str x) []
      rw [ek]
      exact .str x t
theorem pairs_vals {P : Program} {w : World} : ∀ {es : List DictEntry} {vs : List (Key × Value)}, PySem.Pairs (mixKind P w) es vs → es.map (·.val) = vs.map (·.2)
  | _, _, .nil => rfl
  | e :: es, (k, u) :: vs, .cons h1 h2 r => by
    rw [List.map_cons, List.map_cons, pairs_vals r, h2]
mutual
theorem Dz.reads (I : Inv X pins σ H s) : ∀ (d : PyData) (v : V) (u : Value), Dz X.K H v d → RelV v u → ∃ as, Reads s.heap u d as ∧ sysModules ∉ as
  | .none, _, _, h, r => by
    cases h
    cases r
    exact ⟨[], .none, by simp⟩
  | .bool b, _, _, h, r => by
    cases h
    cases r
    exact ⟨[], .bool b, by simp⟩
  | .int i, _, _, h, r => by
    cases h
    obtain ⟨t, rfl⟩ := r
    exact ⟨[], .int i t, by simp⟩
  | .str x, _, _, h, r => by
    cases h
    obtain ⟨t, rfl⟩ := r
    exact ⟨[], .str x t, by simp⟩
  | .list ds, _, _, h, r => by
    cases h with
    | @lst a xs _ e ne ha =>
      cases r
      have ok : ObjOk X.prog X.w H s.heap a (.lst xs) := I.hok a _ e
      obtain ⟨_, its, n, rv, eh⟩ := ok
      obtain ⟨as, q, na⟩ := DzAll.reads I ds xs its ha rv
      refine ⟨a :: as, .list eh rfl rfl (by simpa using q), fun m => ?_⟩
      rcases List.mem_cons.mp m with z | z
      · exact ne z.symm
      · exact na z
  | .tuple ds, _, _, h, r => by
    cases h with
    | @tup a xs _ e ha =>
      cases r
      have ok : ObjOk X.prog X.w H s.heap a (.tup xs) := I.hok a _ e
      obtain ⟨_, its, rv, o, eh, ec, n, ed⟩ := ok
      obtain ⟨as, q, na⟩ := DzAll.reads I ds xs its ha rv
      exact ⟨as, .tuple eh ec ed (by simpa using q), na⟩
  | .dict ds, _, _, h, r => by
    cases h with
    | @dct a kvs _ e ha =>
      cases r
      obtain ⟨_, ne, vs, rel, o, es, ep, eh, ex, ed, _, pr, _⟩ := dk_of I.hok e
      obtain ⟨as, q1, rfl⟩ := pairs_keys (s := s) pr
      obtain ⟨bs, q2, nb⟩ := DzKv.reads I ds kvs vs ha rel
      have hk : (vs.map fun p => keyD p.1) = ds.map (·.1) := DzKv.keys ha rel
      rw [hk] at q1
      refine ⟨a :: [] ++ bs, .dict eh ex.1 ed q1 (by rw [pairs_vals pr]; exact q2), fun m => ?_⟩
      rcases List.mem_cons.mp m with z | z
      · rw [← z] at ne
        simp at ne
      · exact nb z
theorem DzAll.reads (I : Inv X pins σ H s) : ∀ (ds : List PyData) (vs : List V) (us : List Value), DzAll X.K H vs ds → Vals vs us → ∃ as, ReadsAll s.heap us ds as ∧ sysModules ∉ as
  | [], _, _, h, r => by
    cases h
    cases r
    exact ⟨[], .nil, by simp⟩
  | d :: ds, _, _, h, r => by
    cases h with
    | cons h1 h2 =>
      cases r with
      | cons r1 r2 =>
        obtain ⟨as, q1, n1⟩ := Dz.reads I d _ _ h1 r1
        obtain ⟨bs, q2, n2⟩ := DzAll.reads I ds _ _ h2 r2
        exact ⟨as ++ bs, .cons q1 q2, fun m => (List.mem_append.mp m).elim n1 n2⟩
theorem DzKv.reads (I : Inv X pins σ H s) : ∀ (ds : List (PyData × PyData)) (kvs : List (Key × V)) (vs : List (Key × Value)), DzKv X.K H kvs ds → KV kvs vs → ∃ as, ReadsAll s.heap (vs.map (·.2)) (ds.map (·.2)) as ∧ sysModules ∉ as
  | [], _, _, h, r => by
    cases h
    cases r
    exact ⟨[], .nil, by simp⟩
  | (_, d) :: ds, _, _, h, r => by
    cases h with
    | cons h1 h2 =>
      cases r with
      | cons r1 r2 =>
        obtain ⟨as, q1, n1⟩ := Dz.reads I d _ _ h1 r1.2
        obtain ⟨bs, q2, n2⟩ := DzKv.reads I ds _ _ h2 r2
        exact ⟨as ++ bs, .cons q1 q2, fun m => (List.mem_append.mp m).elim n1 n2⟩
theorem DzKv.keys {K : PySem.W.Frag} : ∀ {ds : List (PyData × PyData)} {kvs : List (Key × V)} {vs : List (Key × Value)}, DzKv K H kvs ds → KV kvs vs → (vs.map fun p => keyD p.1) = ds.map (·.1)
  | [], _, _, h, r => by
    cases h
    cases r
    rfl
  | (_, d) :: ds, _, _, h, r => by
    cases h with
    | cons h1 h2 =>
      cases r with
      | cons r1 r2 =>
        rw [List.map_cons, List.map_cons, DzKv.keys h2 r2, ← r1.1]
end
/-- repr of a thing -/
def rReprZ (K : PySem.W.Frag) : List V → Hp → VK → Prop := fun xs H Q => ∃ (v : V) (d : PyData), xs = [v] ∧ Dz K H v d ∧ d.showable = true ∧ d.depth ≤ 60 ∧ d.shown.length ≤ sizeLine ∧ Q (.str d.shown) H
theorem cr_reprZ {k : Nat} (quiet : X.A.guards = some []) (room : Room k X.A) : CallR X (.builtin "repr") (rReprZ X.K) := by
  intro pins s σ H xs us Q I r h
  obtain ⟨v, d, rfl, hd, hs, hp, hz, q⟩ := h
  obtain ⟨u, rfl, rx⟩ := vals1 r
  have hu := room.units
  cases hd with
  | non =>
    cases rx
    exact PySem.P.repr_of_none ⟨.str _, H, I.tok _, ⟨_, rfl⟩, q⟩
  | bl b =>
    cases rx
    exact PySem.P.repr_of_bool ⟨.str _, H, I.tok _, ⟨_, rfl⟩, q⟩
  | int i =>
    obtain ⟨t, rfl⟩ := rx
    exact PySem.P.repr_of_int (by simpa [PyData.showable] using hs) ⟨.str _, H, I.tok _, ⟨_, rfl⟩, q⟩
  | str x =>
    obtain ⟨t, rfl⟩ := rx
    exact PySem.P.repr_of_str ⟨.str _, H, I.tok _, ⟨_, rfl⟩, q⟩ hz
  | lst e n ha =>
    obtain ⟨as, rd, na⟩ := Dz.reads I _ _ u (.lst e n ha) rx
    cases rx
    exact repr_of_reads' rd hs (fun _ => na) quiet (by omega) (fun _ _ z => z) (fun h' u tk kept => ⟨.str _, H, I.kept kept, ⟨u, rfl⟩, q⟩) hz
  | tup e ha =>
    obtain ⟨as, rd, na⟩ := Dz.reads I _ _ u (.tup e ha) rx
    cases rx
    exact repr_of_reads' rd hs (fun _ => na) quiet (by omega) (fun _ _ z => z) (fun h' u tk kept => ⟨.str _, H, I.kept kept, ⟨u, rfl⟩, q⟩) hz
  | dct e ha =>
    obtain ⟨as, rd, na⟩ := Dz.reads I _ _ u (.dct e ha) rx
    cases rx
    exact repr_of_reads' rd hs (fun _ => na) quiet (by omega) (fun _ _ z => z) (fun h' u tk kept => ⟨.str _, H, I.kept kept, ⟨u, rfl⟩, q⟩) hz
/-- a list of written items: new, and no table of modules -/
def tLstZ (t : TA) : TE := fun σ H Q => t σ H fun xs H1 => xs.length ≤ sizeLine ∧ ∀ p, H1 p = none → p ≠ sysModules → Q (.ref p) (upd H1 p (.lst xs))
theorem pe_lstZ {es : List Expr} {t : TA} {pos : Pos} (h : PA X es t) : PE X (.List es pos) (tLstZ t) := by
  refine ⟨fun pins s σ H Q I hq => wpAny_List_spliced (thn (h.run pos pins s σ H _ I hq) fun us s1 z => ?_)⟩
  obtain ⟨xs, H1, I1, r, z, q⟩ := z
  refine ⟨by rw [← r.length]; exact z, ?_⟩
  have new : H1 s1.heap.objs.size = none := I1.hok.fresh (Nat.le_refl _)
  refine ⟨.ref s1.heap.objs.size, upd H1 s1.heap.objs.size (.lst xs), I1.laid (t' := s1.toks) (fun b u e => Heap.get?_push_of_some _ e) (Nat.le_refl _) ?_, rfl, q _ new (Nat.ne_of_gt I1.big)⟩
  exact ⟨z, us, 0, r, Heap.get?_push_size _ rfl⟩
end
end Az
namespace Az
open PySem PySem.Spec PyProof.Rows L2
/-- a thing that is shown in n signs at most, at most k deep -/
structure Nice (d : PyData) (k n : Nat) : Prop where
  sh : d.showable = true
  dp : d.depth ≤ k
  sz : d.shown.length ≤ n
theorem Nice.mono {d : PyData} {k k' n n' : Nat} (h : Nice d k n) (hk : k ≤ k') (hn : n ≤ n') : Nice d k' n' := ⟨h.sh, Nat.le_trans h.dp hk, Nat.le_trans h.sz hn⟩
theorem nice_int {i : Int} {n : Nat} (h : i.natAbs.log2 < 1920) (hn : (Str.ofString (toString i)).length ≤ n) : Nice (.int i) 0 n :=
  ⟨by simpa [PyData.showable] using h, by simp [PyData.depth], by simpa [PyData.shown] using hn⟩
theorem nice_none : Nice .none 0 4 := ⟨by simp [PyData.showable], by simp [PyData.depth], by simp only [PyData.shown]; decide +kernel⟩
theorem nice_bool (b : Bool) : Nice (.bool b) 0 5 := ⟨by simp [PyData.showable], by simp [PyData.depth], by simp only [PyData.shown]; cases b <;> decide +kernel⟩
theorem nice_str {x : Str} {n : Nat} (h : (reprText x).length ≤ n) : Nice (.str x) 0 n := ⟨by simp [PyData.showable], by simp [PyData.depth], by simpa [PyData.shown] using h⟩
theorem list_le : ∀ ts : List Str, (listText ts).length ≤ piled ts + 2
  | [] => by decide +kernel
  | t :: ts => by
    have e : (textFrom 0 "[" (t :: ts)).length = 1 + t.length + piled ts := by
      show (textFrom 1 (("[" : Str) ++ ((if 0 > 0 then ", " else "" : String) : Str) ++ t) ts).length = _
      rw [textFrom_length_pos ts 1 _ (by decide), strLen_append, strLen_append]
      rfl
    unfold listText
    rw [strLen_append, e, piled_cons]
    show 1 + t.length + piled ts + 1 ≤ _
    omega
theorem dict_le (ps : List Str) : (dictText ps).length ≤ piled ps + 2 := by
  unfold dictText
  rw [strLen_append, strLen_append]
  show 1 + (Str.join ", " ps).length + 1 ≤ _
  cases ps with
  | nil => decide
  | cons p r =>
    have := join_length_add (p :: r) (by simp)
    omega
theorem nice_tup1 {d : PyData} {k n : Nat} (h : Nice d k n) : Nice (.tuple [d]) (k + 1) (n + 4) := by
  refine ⟨by simp [PyData.showable, PyData.showableAll, h.sh], ?_, ?_⟩
  · simp only [PyData.depth, PyData.depthAll]
    have := h.dp
    omega
  · simp only [PyData.shown, PyData.shownAll]
    have a := fmt_text [d.shown]
    simp only [piled_cons, piled_nil] at a
    have := h.sz
    omega
theorem nice_lst1 {d : PyData} {k n : Nat} (h : Nice d k n) : Nice (.list [d]) (k + 1) (n + 4) := by
  refine ⟨by simp [PyData.showable, PyData.showableAll, h.sh], ?_, ?_⟩
  · simp only [PyData.depth, PyData.depthAll]
    have := h.dp
    omega
  · simp only [PyData.shown, PyData.shownAll]
    have a := list_le [d.shown]
    simp only [piled_cons, piled_nil] at a
    have := h.sz
    omega
theorem nice_dct1 {d : PyData} {k n m : Nat} {x : Str} (hx : (reprText x).length ≤ m) (h : Nice d k n) : Nice (.dict [(.str x, d)]) (k + 1) (n + m + 6) := by
  refine ⟨by simp [PyData.showable, PyData.showableKv, h.sh], ?_, ?_⟩
  · simp only [PyData.depth, PyData.depthKv]
    have := h.dp
    omega
  · simp only [PyData.shown, PyData.shownKv]
    have a := dict_le [reprText x ++ ": " ++ d.shown]
    simp only [piled_cons, piled_nil, strLen_append] at a
    have c : ((": " : Str)).length = 2 := by decide +kernel
    have := h.sz
    omega
theorem nice_tup0 : Nice (.tuple []) 1 2 := ⟨by simp [PyData.showable, PyData.showableAll], by simp [PyData.depth, PyData.depthAll], by simp only [PyData.shown, PyData.shownAll]; decide +kernel⟩
theorem nice_lst0 : Nice (.list []) 1 2 := ⟨by simp [PyData.showable, PyData.showableAll], by simp [PyData.depth, PyData.depthAll], by simp only [PyData.shown, PyData.shownAll]; decide +kernel⟩
theorem nice_dct0 : Nice (.dict []) 1 2 := ⟨by simp [PyData.showable, PyData.showableKv], by simp [PyData.depth, PyData.depthKv], by simp only [PyData.shown, PyData.shownKv]; decide +kernel⟩
end Az
set_option Elab.async false
set_option linter.all false
set_option maxRecDepth 100000
set_option maxHeartbeats 4000000
set_option pp.maxSteps 400
set_option pp.deepTerms false
namespace Az
open PySem PySem.Spec PyProof.Rows L2
/-! ### texts of signs that have a number of eight places -/
def Asc (x : Str) : Prop := ∀ c ∈ x.cps.toList, c < 16 ^ 8
theorem asc_str (s : String) : Asc (Str.ofString s) := fun c hc => by
  rw [Str.ofString_eq_toList] at hc
  simp only [List.mem_map] at hc
  obtain ⟨k, _, rfl⟩ := hc
  exact Nat.lt_of_lt_of_le (UInt32.toNat_lt k.val) (by decide)
theorem Asc.app {x y : Str} (h1 : Asc x) (h2 : Asc y) : Asc (x ++ y) := fun c hc => by
  rw [Str.cps_append, Array.toList_append, List.mem_append] at hc
  exact hc.elim (h1 c) (h2 c)
theorem asc_hex (l : List Char) (n : Nat) : ∀ c ∈ List.replicate n 48 ++ l.map Char.toNat, c < 16 ^ 8 := fun c hc => by
  rcases List.mem_append.mp hc with h | h
  · rw [(List.mem_replicate.mp h).2]
    decide
  · obtain ⟨k, _, rfl⟩ := List.mem_map.mp h
    exact Nat.lt_of_lt_of_le (UInt32.toNat_lt k.val) (by decide)
theorem asc_char {q c : Nat} (hc : c < 16 ^ 8) : ∀ d ∈ Builtin.Str.reprChar q c, d < 16 ^ 8 := fun d hd => by
  unfold Builtin.Str.reprChar at hd
  dsimp only at hd
  have two : ∀ a : Nat, a < 16 ^ 8 → d ∈ [92, a] → d < 16 ^ 8 := fun a ha h => by
    simp only [List.mem_cons, List.not_mem_nil, or_false] at h
    rcases h with h | h
    · rw [h]; decide
    · rw [h]; exact ha
  have app : ∀ (a : Nat) (l : List Nat), a < 16 ^ 8 → (∀ c ∈ l, c < 16 ^ 8) → d ∈ [92, a] ++ l → d < 16 ^ 8 := fun a l ha hl h => (List.mem_append.mp h).elim (two a ha) (hl d)
  split at hd
  · exact two c hc hd
  · split at hd
    · exact two 110 (by decide) hd
    · split at hd
      · exact two 114 (by decide) hd
      · split at hd
        · exact two 116 (by decide) hd
        · split at hd
          · simp only [List.mem_cons, List.not_mem_nil, or_false] at hd
            rw [hd]
            exact hc
          · split at hd
            · exact app 120 _ (by decide) (asc_hex _ _) hd
            · split at hd
              · exact app 117 _ (by decide) (asc_hex _ _) hd
              · exact app 85 _ (by decide) (asc_hex _ _) hd
theorem asc_fold {q : Nat} : ∀ (l : List Nat) (acc : Array Nat), (∀ c ∈ l, c < 16 ^ 8) → (∀ c ∈ acc.toList, c < 16 ^ 8) → ∀ c ∈ (l.foldl (fun out c => out ++ (Builtin.Str.reprChar q c).toArray) acc).toList, c < 16 ^ 8
  | [], acc, _, h => h
  | k :: r, acc, hl, ha => by
    rw [List.foldl_cons]
    refine asc_fold r _ (fun c hc => hl c (List.mem_cons_of_mem _ hc)) fun c hc => ?_
    rw [Array.toList_append, List.mem_append] at hc
    exact hc.elim (ha c) fun h => asc_char (hl k List.mem_cons_self) c (by simpa using h)
theorem asc_quote (x : Str) : reprQuote x < 16 ^ 8 := by
  unfold reprQuote
  split <;> decide
theorem asc_repr {x : Str} (h : Asc x) : Asc (reprText x) := fun c hc => by
  unfold reprText at hc
  rw [Array.toList_push, List.mem_append, ← Array.foldl_toList] at hc
  rcases hc with hc | hc
  · refine asc_fold x.cps.toList #[reprQuote x] h (fun d hd => ?_) c hc
    have z : d = reprQuote x := by simpa using hd
    rw [z]
    exact asc_quote x
  · have z : c = reprQuote x := by simpa using hc
    rw [z]
    exact asc_quote x
theorem asc_join : ∀ ts : List Str, (∀ t ∈ ts, Asc t) → Asc (Str.join ", " ts)
  | [], _ => fun c hc => by
    have z : c ∈ (Str.empty).cps.toList := hc
    simp [Str.empty] at z
  | [x], h => h x List.mem_cons_self
  | x :: y :: r, h => ((h x List.mem_cons_self).app (asc_str ", ")).app (asc_join (y :: r) fun t ht => h t (List.mem_cons_of_mem _ ht))
theorem asc_from : ∀ (ts : List Str) (k : Nat) (acc : Str), Asc acc → (∀ t ∈ ts, Asc t) → Asc (textFrom k acc ts)
  | [], _, _, h, _ => h
  | t :: ts, k, acc, h, ht => by
    unfold textFrom
    exact asc_from ts (k + 1) _ ((h.app (asc_str _)).app (ht t List.mem_cons_self)) fun u hu => ht u (List.mem_cons_of_mem _ hu)
mutual
/-- all texts within a thing -/
def ascD : PyData → Prop
  | .none | .bool _ | .int _ => True
  | .str x => Asc x
  | .list xs | .tuple xs => ascAll xs
  | .dict kvs => ascKv kvs
def ascAll : List PyData → Prop
  | [] => True
  | x :: xs => ascD x ∧ ascAll xs
def ascKv : List (PyData × PyData) → Prop
  | [] => True
  | (k, v) :: r => ascD k ∧ ascD v ∧ ascKv r
end
mutual
theorem asc_shown : ∀ d : PyData, ascD d → Asc d.shown
  | .none, _ => asc_str "None"
  | .bool b, _ => by
    simp only [PyData.shown]
    cases b
    · exact asc_str "False"
    · exact asc_str "True"
  | .int i, _ => asc_str (toString i)
  | .str x, h => asc_repr (by simpa [ascD] using h)
  | .list xs, h => by
    simp only [PyData.shown]
    exact (asc_from _ _ _ (asc_str "[") (asc_shownAll xs (by simpa [ascD] using h))).app (asc_str "]")
  | .tuple xs, h => by
    simp only [PyData.shown]
    exact ((asc_str "(").app (asc_join _ (asc_shownAll xs (by simpa [ascD] using h)))).app (asc_str _)
  | .dict kvs, h => by
    simp only [PyData.shown]
    exact ((asc_str "{").app (asc_join _ (asc_shownKv kvs (by simpa [ascD] using h)))).app (asc_str "}")
theorem asc_shownAll : ∀ xs : List PyData, ascAll xs → ∀ t ∈ PyData.shownAll xs, Asc t
  | [], _, t, ht => by
    simp [PyData.shownAll] at ht
  | x :: xs, h, t, ht => by
    have h' : ascD x ∧ ascAll xs := by simpa [ascAll] using h
    simp only [PyData.shownAll, List.mem_cons] at ht
    rcases ht with e | e
    · rw [e]
      exact asc_shown x h'.1
    · exact asc_shownAll xs h'.2 t e
theorem asc_shownKv : ∀ xs : List (PyData × PyData), ascKv xs → ∀ t ∈ PyData.shownKv xs, Asc t
  | [], _, t, ht => by
    simp [PyData.shownKv] at ht
  | (k, v) :: xs, h, t, ht => by
    have h' : ascD k ∧ ascD v ∧ ascKv xs := by simpa [ascKv] using h
    simp only [PyData.shownKv, List.mem_cons] at ht
    rcases ht with e | e
    · rw [e]
      exact ((asc_shown k h'.1).app (asc_str ": ")).app (asc_shown v h'.2.1)
    · exact asc_shownKv xs h'.2.2 t e
end
/-- str of a thing -/
def strD : PyData → Str
  | .str x => x
  | d => d.shown
theorem strD_asc {d : PyData} (h : ascD d) : Asc (strD d) := by
  cases d with
  | str x => simpa [strD, ascD] using h
  | _ => exact asc_shown _ h
theorem len_repr (x : Str) : x.length ≤ (reprText x).length := by
  have grow : ∀ (q : Nat) (l : List Nat) (acc : Array Nat), acc.size + l.length ≤ (l.foldl (fun out c => out ++ (Builtin.Str.reprChar q c).toArray) acc).size := fun q l => by
    induction l with
    | nil => intro acc; simp
    | cons k r ih =>
      intro acc
      have h := ih (acc ++ (Builtin.Str.reprChar q k).toArray)
      have one : 1 ≤ (Builtin.Str.reprChar q k).length := by
        unfold Builtin.Str.reprChar
        dsimp only
        repeat' split
        all_goals simp
        all_goals omega
      rw [List.foldl_cons]
      simp only [Array.size_append, List.size_toArray] at h
      simp only [List.length_cons]
      omega
  have h := grow (reprQuote x) x.cps.toList #[reprQuote x]
  unfold reprText
  show x.length ≤ ((x.cps.foldl (fun out c => out ++ (Builtin.Str.reprChar (reprQuote x) c).toArray) #[reprQuote x]).push (reprQuote x)).size
  rw [Array.size_push, ← Array.foldl_toList]
  have e : x.cps.toList.length = x.length := by simp [Str.length]
  omega
theorem strD_len {d : PyData} : (strD d).length ≤ d.shown.length := by
  cases d with
  | str x =>
    simp only [strD, PyData.shown]
    exact len_repr x
  | _ => exact Nat.le_refl _
section
variable {X : Cx}
def rStrZ (K : PySem.W.Frag) : List V → Hp → VK → Prop := fun xs H Q => ∃ (v : V) (d : PyData), xs = [v] ∧ Dz K H v d ∧ d.showable = true ∧ d.depth ≤ 60 ∧ d.shown.length ≤ sizeLine ∧ Q (.str (strD d)) H
theorem cr_strZ {k : Nat} (quiet : X.A.guards = some []) (room : Room k X.A) : CallR X (.type "str") (rStrZ X.K) := by
  intro pins s σ H xs us Q I r h
  obtain ⟨v, d, rfl, hd, hs, hp, hz, q⟩ := h
  obtain ⟨u, rfl, rx⟩ := vals1 r
  have hu := room.un
  cases hd with
  | non =>
    cases rx
    exact PySem.P.str_of_none ⟨.str _, H, I.tok _, ⟨_, rfl⟩, q⟩
  | bl b =>
    cases rx
    exact PySem.P.str_of_bool ⟨.str _, H, I.tok _, ⟨_, rfl⟩, q⟩
  | int i =>
    obtain ⟨t, rfl⟩ := rx
    exact PySem.P.str_of_int (by simpa [PyData.showable] using hs) ⟨.str _, H, I.tok _, ⟨_, rfl⟩, q⟩
  | str x =>
    obtain ⟨t, rfl⟩ := rx
    exact PySem.P.str_of_str ⟨.str _, H, I, ⟨_, rfl⟩, q⟩
  | lst e n ha =>
    obtain ⟨as, rd, na⟩ := Dz.reads I _ _ u (.lst e n ha) rx
    cases rx
    exact str_of_reads rd hs (fun _ => na) quiet (by omega) (fun _ _ z => z) (fun h' u tk kept => ⟨.str _, H, I.kept kept, ⟨u, rfl⟩, q⟩) hz
  | tup e ha =>
    obtain ⟨as, rd, na⟩ := Dz.reads I _ _ u (.tup e ha) rx
    cases rx
    exact str_of_reads rd hs (fun _ => na) quiet (by omega) (fun _ _ z => z) (fun h' u tk kept => ⟨.str _, H, I.kept kept, ⟨u, rfl⟩, q⟩) hz
  | dct e ha =>
    obtain ⟨as, rd, na⟩ := Dz.reads I _ _ u (.dct e ha) rx
    cases rx
    exact str_of_reads rd hs (fun _ => na) quiet (by omega) (fun _ _ z => z) (fun h' u tk kept => ⟨.str _, H, I.kept kept, ⟨u, rfl⟩, q⟩) hz
end
end Az
set_option Elab.async false
set_option linter.all false
set_option maxRecDepth 100000
set_option maxHeartbeats 4000000
set_option pp.maxSteps 400
set_option pp.deepTerms false
namespace K69
open PySem PySem.Spec PyProof.Rows L2
open Xk Az Xtx
theorem scNoTextInit : FnScope ["self", "row", "wanted"] ["self", "row", "wanted"] (defScope sNoTextInit) := ⟨rfl, rfl, rfl, by decide +kernel, rfl, by decide +kernel, by decide +kernel⟩
theorem scIsWhole : FnScope ["thing"] ["thing"] (defScope sIsWhole) := ⟨rfl, rfl, rfl, by decide +kernel, rfl, by decide +kernel, by decide +kernel⟩
theorem scIsWithin : FnScope ["thing", "least", "most"] ["thing", "least", "most"] (defScope sIsWithin) := ⟨rfl, rfl, rfl, by decide +kernel, rfl, by decide +kernel, by decide +kernel⟩
theorem scIsTextOf : FnScope ["thing", "signs", "least", "most", "sign"] ["thing", "signs", "least", "most"] (defScope sIsTextOf) := ⟨rfl, rfl, rfl, by decide +kernel, rfl, by decide +kernel, by decide +kernel⟩
theorem scIsSmallText : FnScope ["thing", "least", "most"] ["thing", "least", "most"] (defScope sIsSmallText) := ⟨rfl, rfl, rfl, by decide +kernel, rfl, by decide +kernel, by decide +kernel⟩
theorem scIsWord : FnScope ["thing"] ["thing"] (defScope sIsWord) := ⟨rfl, rfl, rfl, by decide +kernel, rfl, by decide +kernel, by decide +kernel⟩
theorem scAreRising : FnScope ["things", "one", "other"] ["things"] (defScope sAreRising) := ⟨rfl, rfl, rfl, by decide +kernel, rfl, by decide +kernel, by decide +kernel⟩
theorem scIsLeap : FnScope ["year"] ["year"] (defScope sIsLeap) := ⟨rfl, rfl, rfl, by decide +kernel, rfl, by decide +kernel, by decide +kernel⟩
theorem scDaysIn : FnScope ["year", "month"] ["year", "month"] (defScope sDaysIn) := ⟨rfl, rfl, rfl, by decide +kernel, rfl, by decide +kernel, by decide +kernel⟩
theorem scMakesDay : FnScope ["year", "month", "day"] ["year", "month", "day"] (defScope sMakesDay) := ⟨rfl, rfl, rfl, by decide +kernel, rfl, by decide +kernel, by decide +kernel⟩
theorem scDayInit : FnScope ["self", "year", "month", "day"] ["self", "year", "month", "day"] (defScope sDayInit) := ⟨rfl, rfl, rfl, by decide +kernel, rfl, by decide +kernel, by decide +kernel⟩
theorem scDayEq : FnScope ["self", "other"] ["self", "other"] (defScope sDayEq) := ⟨rfl, rfl, rfl, by decide +kernel, rfl, by decide +kernel, by decide +kernel⟩
theorem scDayStr : FnScope ["self"] ["self"] (defScope sDayStr) := ⟨rfl, rfl, rfl, by decide +kernel, rfl, by decide +kernel, by decide +kernel⟩
theorem scDayRepr : FnScope ["self"] ["self"] (defScope sDayRepr) := ⟨rfl, rfl, rfl, by decide +kernel, rfl, by decide +kernel, by decide +kernel⟩
theorem scPartsOf : FnScope ["day"] ["day"] (defScope sPartsOf) := ⟨rfl, rfl, rfl, by decide +kernel, rfl, by decide +kernel, by decide +kernel⟩
theorem scBeyondMinutes : FnScope ["seconds"] ["seconds"] (defScope sBeyondMinutes) := ⟨rfl, rfl, rfl, by decide +kernel, rfl, by decide +kernel, by decide +kernel⟩
theorem scLengthInit : FnScope ["self", "seconds"] ["self", "seconds"] (defScope sLengthInit) := ⟨rfl, rfl, rfl, by decide +kernel, rfl, by decide +kernel, by decide +kernel⟩
theorem scLengthEq : FnScope ["self", "other"] ["self", "other"] (defScope sLengthEq) := ⟨rfl, rfl, rfl, by decide +kernel, rfl, by decide +kernel, by decide +kernel⟩
theorem scLengthStr : FnScope ["self"] ["self"] (defScope sLengthStr) := ⟨rfl, rfl, rfl, by decide +kernel, rfl, by decide +kernel, by decide +kernel⟩
theorem scLengthRepr : FnScope ["self"] ["self"] (defScope sLengthRepr) := ⟨rfl, rfl, rfl, by decide +kernel, rfl, by decide +kernel, by decide +kernel⟩
theorem scIsTongue : FnScope ["thing"] ["thing"] (defScope sIsTongue) := ⟨rfl, rfl, rfl, by decide +kernel, rfl, by decide +kernel, by decide +kernel⟩
theorem scIsNameText : FnScope ["thing"] ["thing"] (defScope sIsNameText) := ⟨rfl, rfl, rfl, by decide +kernel, rfl, by decide +kernel, by decide +kernel⟩
theorem scIsName : FnScope ["thing"] ["thing"] (defScope sIsName) := ⟨rfl, rfl, rfl, by decide +kernel, rfl, by decide +kernel, by decide +kernel⟩
theorem scIsKey : FnScope ["thing", "house", "number"] ["thing"] (defScope sIsKey) := ⟨rfl, rfl, rfl, by decide +kernel, rfl, by decide +kernel, by decide +kernel⟩
theorem scIsCode : FnScope ["thing"] ["thing"] (defScope sIsCode) := ⟨rfl, rfl, rfl, by decide +kernel, rfl, by decide +kernel, by decide +kernel⟩
theorem scArePlayers : FnScope ["thing", "player"] ["thing"] (defScope sArePlayers) := ⟨rfl, rfl, rfl, by decide +kernel, rfl, by decide +kernel, by decide +kernel⟩
theorem scIsEntry : FnScope ["thing", "house", "number", "code", "title", "players", "day", "length"] ["thing"] (defScope sIsEntry) := ⟨rfl, rfl, rfl, by decide +kernel, rfl, by decide +kernel, by decide +kernel⟩
theorem scKeyOf : FnScope ["entry"] ["entry"] (defScope sKeyOf) := ⟨rfl, rfl, rfl, by decide +kernel, rfl, by decide +kernel, by decide +kernel⟩
theorem scFieldOf : FnScope ["entry", "field"] ["entry", "field"] (defScope sFieldOf) := ⟨rfl, rfl, rfl, by decide +kernel, rfl, by decide +kernel, by decide +kernel⟩
theorem scShowName : FnScope ["name", "tongue", "text"] ["name"] (defScope sShowName) := ⟨rfl, rfl, rfl, by decide +kernel, rfl, by decide +kernel, by decide +kernel⟩
theorem scShowKey : FnScope ["key", "house", "number"] ["key"] (defScope sShowKey) := ⟨rfl, rfl, rfl, by decide +kernel, rfl, by decide +kernel, by decide +kernel⟩
theorem scShowKeys : FnScope ["keys", "key"] ["keys"] (defScope sShowKeys) := ⟨rfl, rfl, rfl, by decide +kernel, rfl, by decide +kernel, by decide +kernel⟩
theorem scShowTold : FnScope ["field", "thing", "text", "player"] ["field", "thing"] (defScope sShowTold) := ⟨rfl, rfl, rfl, by decide +kernel, rfl, by decide +kernel, by decide +kernel⟩
theorem scShowEntry : FnScope ["entry", "fields", "field"] ["entry"] (defScope sShowEntry) := ⟨rfl, rfl, rfl, by decide +kernel, rfl, by decide +kernel, by decide +kernel⟩
theorem scAreRows : FnScope ["thing", "key"] ["thing"] (defScope sAreRows) := ⟨rfl, rfl, rfl, by decide +kernel, rfl, by decide +kernel, by decide +kernel⟩
theorem scDiscLen : FnScope ["self"] ["self"] (defScope sDiscLen) := ⟨rfl, rfl, rfl, by decide +kernel, rfl, by decide +kernel, by decide +kernel⟩
theorem scDiscEq : FnScope ["self", "other"] ["self", "other"] (defScope sDiscEq) := ⟨rfl, rfl, rfl, by decide +kernel, rfl, by decide +kernel, by decide +kernel⟩
theorem scDiscStr : FnScope ["self"] ["self"] (defScope sDiscStr) := ⟨rfl, rfl, rfl, by decide +kernel, rfl, by decide +kernel, by decide +kernel⟩
theorem scDiscRepr : FnScope ["self"] ["self"] (defScope sDiscRepr) := ⟨rfl, rfl, rfl, by decide +kernel, rfl, by decide +kernel, by decide +kernel⟩
theorem scPlaceIn : FnScope ["field", "thing", "part"] ["field", "thing"] (defScope sPlaceIn) := ⟨rfl, rfl, rfl, by decide +kernel, rfl, by decide +kernel, by decide +kernel⟩
theorem scEmptySheet : FnScope ["field"] [] (defScope sEmptySheet) := ⟨rfl, rfl, rfl, by decide +kernel, rfl, by decide +kernel, by decide +kernel⟩
theorem scOnlyOne : FnScope ["things"] ["things"] (defScope sOnlyOne) := ⟨rfl, rfl, rfl, by decide +kernel, rfl, by decide +kernel, by decide +kernel⟩
theorem scEntryOn : FnScope ["key", "sheet", "field"] ["key", "sheet"] (defScope sEntryOn) := ⟨rfl, rfl, rfl, by decide +kernel, rfl, by decide +kernel, by decide +kernel⟩
theorem scListingInit : FnScope ["self", "entries", "entry"] ["self", "entries"] (defScope sListingInit) := ⟨rfl, rfl, rfl, by decide +kernel, rfl, by decide +kernel, by decide +kernel⟩
theorem scListingLen : FnScope ["self"] ["self"] (defScope sListingLen) := ⟨rfl, rfl, rfl, by decide +kernel, rfl, by decide +kernel, by decide +kernel⟩
theorem scListingEq : FnScope ["self", "other"] ["self", "other"] (defScope sListingEq) := ⟨rfl, rfl, rfl, by decide +kernel, rfl, by decide +kernel, by decide +kernel⟩
theorem scListingStr : FnScope ["self", "entry"] ["self"] (defScope sListingStr) := ⟨rfl, rfl, rfl, by decide +kernel, rfl, by decide +kernel, by decide +kernel⟩
theorem scListingRepr : FnScope ["self"] ["self"] (defScope sListingRepr) := ⟨rfl, rfl, rfl, by decide +kernel, rfl, by decide +kernel, by decide +kernel⟩
theorem scListingPut : FnScope ["self", "entry", "sheet", "field", "thing"] ["self", "entry"] (defScope sListingPut) := ⟨rfl, rfl, rfl, by decide +kernel, rfl, by decide +kernel, by decide +kernel⟩
theorem scListingTold : FnScope ["self", "house", "number", "field", "key", "things", "place"] ["self", "house", "number", "field"] (defScope sListingTold) := ⟨rfl, rfl, rfl, by decide +kernel, rfl, by decide +kernel, by decide +kernel⟩
theorem scListingJoined : FnScope ["self", "other"] ["self", "other"] (defScope sListingJoined) := ⟨rfl, rfl, rfl, by decide +kernel, rfl, by decide +kernel, by decide +kernel⟩
theorem scListingEntries : FnScope ["self", "key"] ["self"] (defScope sListingEntries) := ⟨rfl, rfl, rfl, by decide +kernel, rfl, by decide +kernel, by decide +kernel⟩
theorem scListingClashes : FnScope ["self"] ["self"] (defScope sListingClashes) := ⟨rfl, rfl, rfl, by decide +kernel, rfl, by decide +kernel, by decide +kernel⟩
theorem scAreFigures : FnScope ["text", "least", "most"] ["text", "least", "most"] (defScope sAreFigures) := ⟨rfl, rfl, rfl, by decide +kernel, rfl, by decide +kernel, by decide +kernel⟩
theorem scNumberIn : FnScope ["text"] ["text"] (defScope sNumberIn) := ⟨rfl, rfl, rfl, by decide +kernel, rfl, by decide +kernel, by decide +kernel⟩
theorem scDayIn : FnScope ["text", "parts", "year", "month", "day", "part"] ["text"] (defScope sDayIn) := ⟨rfl, rfl, rfl, by decide +kernel, rfl, by decide +kernel, by decide +kernel⟩
theorem scLengthIn : FnScope ["text", "minutes", "colon", "seconds", "whole", "total"] ["text"] (defScope sLengthIn) := ⟨rfl, rfl, rfl, by decide +kernel, rfl, by decide +kernel, by decide +kernel⟩
theorem scNameIn : FnScope ["text", "tongue", "colon", "rest"] ["text"] (defScope sNameIn) := ⟨rfl, rfl, rfl, by decide +kernel, rfl, by decide +kernel, by decide +kernel⟩
theorem scKeyIn : FnScope ["text", "house", "blank", "figures", "key"] ["text"] (defScope sKeyIn) := ⟨rfl, rfl, rfl, by decide +kernel, rfl, by decide +kernel, by decide +kernel⟩
theorem scAllIn : FnScope ["reader", "text", "things", "piece"] ["reader", "text"] (defScope sAllIn) := ⟨rfl, rfl, rfl, by decide +kernel, rfl, by decide +kernel, by decide +kernel⟩
theorem scKeysIn : FnScope ["text"] ["text"] (defScope sKeysIn) := ⟨rfl, rfl, rfl, by decide +kernel, rfl, by decide +kernel, by decide +kernel⟩
theorem scNamesIn : FnScope ["text"] ["text"] (defScope sNamesIn) := ⟨rfl, rfl, rfl, by decide +kernel, rfl, by decide +kernel, by decide +kernel⟩
theorem scCodeIn : FnScope ["text"] ["text"] (defScope sCodeIn) := ⟨rfl, rfl, rfl, by decide +kernel, rfl, by decide +kernel, by decide +kernel⟩
theorem scToldIn : FnScope ["field", "pieces", "start", "reader", "piece"] ["field", "pieces"] (defScope sToldIn) := ⟨rfl, rfl, rfl, by decide +kernel, rfl, by decide +kernel, by decide +kernel⟩
theorem scEntryIn : FnScope ["text", "head", "pieces", "key", "entry", "field"] ["text"] (defScope sEntryIn) := ⟨rfl, rfl, rfl, by decide +kernel, rfl, by decide +kernel, by decide +kernel⟩
theorem scDiscIn : FnScope ["text", "label", "between", "rest", "rows"] ["text"] (defScope sDiscIn) := ⟨rfl, rfl, rfl, by decide +kernel, rfl, by decide +kernel, by decide +kernel⟩
theorem scWorkRowIn : FnScope ["text", "written", "deep", "odd", "name"] ["text"] (defScope sWorkRowIn) := ⟨rfl, rfl, rfl, by decide +kernel, rfl, by decide +kernel, by decide +kernel⟩
theorem scMayStand : FnScope ["rows", "row", "deep", "name", "above", "known"] ["rows", "row"] (defScope sMayStand) := ⟨rfl, rfl, rfl, by decide +kernel, rfl, by decide +kernel, by decide +kernel⟩
theorem scWorkOf : FnScope ["rows", "deep", "waiting", "name"] ["rows"] (defScope sWorkOf) := ⟨rfl, rfl, rfl, by decide +kernel, rfl, by decide +kernel, by decide +kernel⟩
theorem scSoWritten : FnScope ["reader", "text", "wanted", "row", "thing"] ["reader", "text", "wanted", "row"] (defScope sSoWritten) := ⟨rfl, rfl, rfl, by decide +kernel, rfl, by decide +kernel, by decide +kernel⟩
theorem scReadDay : FnScope ["text"] ["text"] (defScope sReadDay) := ⟨rfl, rfl, rfl, by decide +kernel, rfl, by decide +kernel, by decide +kernel⟩
theorem scReadLength : FnScope ["text"] ["text"] (defScope sReadLength) := ⟨rfl, rfl, rfl, by decide +kernel, rfl, by decide +kernel, by decide +kernel⟩
theorem scReadName : FnScope ["text"] ["text"] (defScope sReadName) := ⟨rfl, rfl, rfl, by decide +kernel, rfl, by decide +kernel, by decide +kernel⟩
theorem scReadEntry : FnScope ["text"] ["text"] (defScope sReadEntry) := ⟨rfl, rfl, rfl, by decide +kernel, rfl, by decide +kernel, by decide +kernel⟩
theorem scReadDisc : FnScope ["text"] ["text"] (defScope sReadDisc) := ⟨rfl, rfl, rfl, by decide +kernel, rfl, by decide +kernel, by decide +kernel⟩
theorem scReadWork : FnScope ["text", "rows", "number", "line", "row"] ["text"] (defScope sReadWork) := ⟨rfl, rfl, rfl, by decide +kernel, rfl, by decide +kernel, by decide +kernel⟩
theorem scReadListing : FnScope ["text", "lines", "number", "line"] ["text"] (defScope sReadListing) := ⟨rfl, rfl, rfl, by decide +kernel, rfl, by decide +kernel, by decide +kernel⟩
theorem scHand : FnScope ["_law_script", "_law_k", "_law_cell", "_law_great"] ["_law_script", "_law_k"] (defScope sHand) := ⟨rfl, rfl, rfl, by decide +kernel, rfl, by decide +kernel, by decide +kernel⟩
theorem scTake : FnScope ["_law_hand_here", "_law_many", "_law_digit", "_law_mixed"] ["_law_hand_here", "_law_many"] (defScope sTake) := ⟨rfl, rfl, rfl, by decide +kernel, rfl, by decide +kernel, by decide +kernel⟩
theorem scPick : FnScope ["_law_hand_here", "_law_some"] ["_law_hand_here", "_law_some"] (defScope sPick) := ⟨rfl, rfl, rfl, by decide +kernel, rfl, by decide +kernel, by decide +kernel⟩
theorem scAlone : FnScope ["_law_e"] ["_law_e"] (defScope sAlone) := ⟨rfl, rfl, rfl, by decide +kernel, rfl, by decide +kernel, by decide +kernel⟩
theorem scRead : FnScope ["_law_way", "_law_thing"] ["_law_way", "_law_thing"] (defScope sRead) := ⟨rfl, rfl, rfl, by decide +kernel, rfl, by decide +kernel, by decide +kernel⟩
theorem scAsked : FnScope ["_law_way", "_law_thing", "_law_caught", "_law_e"] ["_law_way", "_law_thing"] (defScope sAsked) := ⟨rfl, rfl, rfl, by decide +kernel, rfl, by decide +kernel, by decide +kernel⟩
theorem scThings : FnScope ["_law_hand_here", "_law_name", "_law_key", "_law_some", "_law_thing", "_law_turn"] ["_law_hand_here"] (defScope sThings) := ⟨rfl, rfl, rfl, by decide +kernel, rfl, by decide +kernel, by decide +kernel⟩
theorem scRight : FnScope ["_law_hand_here", "_law_words", "_law_thing", "_law_kept", "_law_way", "_law_word", "_law_found"] ["_law_hand_here"] (defScope sRight) := ⟨rfl, rfl, rfl, by decide +kernel, rfl, by decide +kernel, by decide +kernel⟩
theorem scLaw : FnScope ["_law_script", "_law_k"] ["_law_script"] (defScope sLaw) := ⟨rfl, rfl, rfl, by decide +kernel, rfl, by decide +kernel, by decide +kernel⟩
def leap (y : Int) : Bool := decide (y % 4 = 0) && (decide (y % 100 ≠ 0) || decide (y % 400 = 0))
def lastDay (y m : Int) : Int := if m = 4 ∨ m = 6 ∨ m = 9 ∨ m = 11 then 30 else if m ≠ 2 then 31 else if leap y = true then 29 else 28
theorem lastDay_ge (y m : Int) : 28 ≤ lastDay y m ∧ lastDay y m ≤ 31 := by
  unfold lastDay
  split
  · omega
  · split
    · omega
    · split <;> omega
/-- the parts of a day -/
def Good (y : Int) (m d : Option Int) : Prop := 1 ≤ y ∧ y ≤ 9999 ∧ match m with
  | none => d = none
  | some i => 1 ≤ i ∧ i ≤ 12 ∧ match d with
    | none => True
    | some j => 1 ≤ j ∧ j ≤ lastDay y i
def oV : Option Int → V
  | none => .non
  | some i => .int i
def oD : Option Int → PyData
  | none => .none
  | some i => .int i
/-! ## objects -/
/-- all that was tracked stands but for the hand -/
def But (h : Addr) (H H' : Hp) : Prop := ∀ b o, b ≠ h → H b = some o → H' b = some o
theorem But.refl (h : Addr) (H : Hp) : But h H H := fun _ _ _ e => e
theorem But.trans {h : Addr} {H H1 H2 : Hp} (p : But h H H1) (q : But h H1 H2) : But h H H2 := fun b o n e => q b o n (p b o n e)
theorem Same.but {H H' : Hp} (s : Same H H') (h : Addr) : But h H H' := fun b o _ e => s b o e
theorem But.seqT {K : PySem.W.Frag} {h : Addr} {H H' : Hp} (s : But h H H') {t : Addr} {xs : List V} (n : t ≠ h) (q : SqT K H t xs) : SqT K H' t xs := by
  rcases q with (q | ⟨o, q⟩) | q
  · exact .inl (.inl (s _ _ n q))
  · exact .inl (.inr ⟨o, s _ _ n q⟩)
  · exact .inr q
theorem But.seqL {K : PySem.W.Frag} {h : Addr} {H H' : Hp} (s : But h H H') {t : Addr} {xs : List V} (n : t ≠ h) (q : SqL K H t xs) : SqL K H' t xs := by
  rcases q with (q | ⟨o, q⟩) | q
  · exact .inl (.inl (s _ _ n q))
  · exact .inl (.inr ⟨o, s _ _ n q⟩)
  · exact .inr q
theorem Same.seqT {K : PySem.W.Frag} {H H' : Hp} (s : Same H H') {t : Addr} {xs : List V} (q : SqT K H t xs) : SqT K H' t xs := by
  rcases q with (q | ⟨o, q⟩) | q
  · exact .inl (.inl (s _ _ q))
  · exact .inl (.inr ⟨o, s _ _ q⟩)
  · exact .inr q
theorem same_upd {H : Hp} {p : Addr} {o : HO} (h : H p = none) : Same H (upd H p o) := fun b x e => by
  rw [upd_ne (ne_of_none e h)]
  exact e
theorem but_upd {H : Hp} {p : Addr} {o : HO} : But p H (upd H p o) := fun b x n e => by
  rw [upd_ne n]
  exact e
/-- the hand: what is left of the cell, what it is mixed of, how often it was asked -/
def Hand (n : Int) (H : Hp) (a : Addr) : Prop := ∃ g m c : Int, H a = some (.lst [.int g, .int m, .int c]) ∧ 0 ≤ g ∧ 0 ≤ m ∧ m < 2305843009213693951 ∧ 0 ≤ c ∧ c ≤ n
theorem Hand.mono {n n' : Int} {H : Hp} {a : Addr} (h : Hand n H a) (l : n ≤ n') : Hand n' H a := by
  obtain ⟨g, m, c, e, h1, h2, h3, h4, h5⟩ := h
  exact ⟨g, m, c, e, h1, h2, h3, h4, Int.le_trans h5 l⟩
theorem Hand.same {n : Int} {H H' : Hp} {a : Addr} (h : Hand n H a) (s : Same H H') : Hand n H' a := by
  obtain ⟨g, m, c, e, r⟩ := h
  exact ⟨g, m, c, s _ _ e, r⟩
theorem Hand.at_ {n : Int} {H : Hp} {a : Addr} (h : Hand n H a) : ∃ xs, H a = some (.lst xs) := by
  obtain ⟨g, m, c, e, r⟩ := h
  exact ⟨_, e⟩
theorem Hand.ne_tup {K : PySem.W.Frag} {n : Int} {H : Hp} {a t : Addr} {xs : List V} (h : Hand n H a) (e : H t = some (.tup xs)) : t ≠ a := by
  obtain ⟨ys, e2⟩ := h.at_
  exact ne_of e e2 (by intro z; cases z)
theorem But.free {h l : Addr} {H H' : Hp} (b : But h H H') (ne : l ≠ h) (e : H' l = none) : H l = none := by
  cases q : H l with
  | none => rfl
  | some o =>
    rw [b l o ne q] at e
    cases e
theorem Hand.fresh {n : Int} {H : Hp} {a l : Addr} (h : Hand n H a) (e : H l = none) : l ≠ a := by
  obtain ⟨xs, q⟩ := h.at_
  exact (ne_of_none q e).symm
theorem Hand.upd {n : Int} {H : Hp} {a p : Addr} {x : HO} (h : Hand n H a) (ne : a ≠ p) : Hand n (L2.upd H p x) a := by
  obtain ⟨g, m, c, e, r⟩ := h
  exact ⟨g, m, c, by rw [upd_ne ne]; exact e, r⟩
/-- the fields of a Day -/
def dayF (y : Int) (m d : Option Int) : List (Str × V) := [("year", .int y), ("month", oV m), ("day", oV d)]
def DayAt (C : Addr) (H : Hp) (x : Addr) (y : Int) (m d : Option Int) : Prop := ∃ dx, H x = some (.ins C dx (dayF y m d))
theorem DayAt.same {C : Addr} {H H' : Hp} {x : Addr} {y : Int} {m d : Option Int} (h : DayAt C H x y m d) (s : Same H H') : DayAt C H' x y m d := by
  obtain ⟨dx, e⟩ := h
  exact ⟨dx, s _ _ e⟩
theorem DayAt.but {C h : Addr} {n : Int} {H H' : Hp} {x : Addr} {y : Int} {m d : Option Int} (q : DayAt C H x y m d) (hh : Hand n H h) (s : But h H H') : DayAt C H' x y m d := by
  obtain ⟨dx, e⟩ := q
  obtain ⟨ys, e2⟩ := hh.at_
  exact ⟨dx, s _ _ (ne_of e e2 (by intro z; cases z)) e⟩
theorem f_y (y : Int) (m d : Option Int) : (dayF y m d).lookup ("year" : Str) = some (.int y) := by
  unfold dayF
  rw [List.lookup_cons_self]
theorem f_m (y : Int) (m d : Option Int) : (dayF y m d).lookup ("month" : Str) = some (oV m) := by
  unfold dayF
  rw [List.lookup_cons, show (("month" : Str) == "year") = false by decide +kernel, List.lookup_cons_self]
theorem f_d (y : Int) (m d : Option Int) : (dayF y m d).lookup ("day" : Str) = some (oV d) := by
  unfold dayF
  rw [List.lookup_cons, show (("day" : Str) == "year") = false by decide +kernel, List.lookup_cons, show (("day" : Str) == "month") = false by decide +kernel, List.lookup_cons_self]
def LenAt (C : Addr) (H : Hp) (x : Addr) (i : Int) : Prop := ∃ dx, H x = some (.ins C dx [("seconds", .int i)])
theorem LenAt.same {C : Addr} {H H' : Hp} {x : Addr} {i : Int} (h : LenAt C H x i) (s : L2.Same H H') : LenAt C H' x i := by
  obtain ⟨dx, e⟩ := h
  exact ⟨dx, s _ _ e⟩
theorem LenAt.but {C h : Addr} {n : Int} {H H' : Hp} {x : Addr} {i : Int} (q : LenAt C H x i) (hh : Hand n H h) (s : But h H H') : LenAt C H' x i := by
  obtain ⟨dx, e⟩ := q
  obtain ⟨ys, e2⟩ := hh.at_
  exact ⟨dx, s _ _ (ne_of e e2 (by intro z; cases z)) e⟩
theorem f_s (i : Int) : ([(("seconds" : Str), V.int i)] : List (Str × V)).lookup ("seconds" : Str) = some (.int i) := by rw [List.lookup_cons_self]
/-- an exception's making ends so -/
theorem made_x {H H2 : Hp} {a d : Addr} {o : HO} (na : H a = none) (ne : d ≠ a) (off : ∀ b, b ≠ a → b ≠ d → H2 b = H b) : upd (del H2 a) d o = upd H d o := by
  funext b
  by_cases hd : b = d
  · rw [hd, upd_same, upd_same]
  · rw [upd_ne hd, upd_ne hd]
    by_cases ha : b = a
    · rw [ha, del_same, na]
    · rw [del_ne ha, off b ha hd]
theorem off_all {h : Addr} {H : Hp} : L2.Same (del H h) H := fun b o e => by
  by_cases z : b = h
  · rw [z, del_same] at e
    cases e
  · rw [del_ne z] at e
    exact e
theorem off_but {h : Addr} {H H' : Hp} (s : But h H H') : L2.Same (del H h) (del H' h) := fun b o e => by
  by_cases z : b = h
  · rw [z, del_same] at e
    cases e
  · rw [del_ne z] at e
    rw [del_ne z]
    exact s b o z e
theorem off_new {h p : Addr} {H : Hp} {o : HO} (ne : p ≠ h) : del (upd H p o) h p = some o := by rw [del_ne ne, upd_same]
theorem off_at {h p : Addr} {H : Hp} {o : HO} (ne : p ≠ h) (e : H p = some o) : del H h p = some o := by rw [del_ne ne, e]
/-- things of the built-in kinds that are asked -/
inductive Odd (H : Hp) : V → String → Prop where
  | int (i : Int) : Odd H (.int i) "int"
  | str (x : Str) : Odd H (.str x) "str"
  | non : Odd H .non "NoneType"
  | tup {a : Addr} {xs : List V} (e : H a = some (.tup xs)) : Odd H (.ref a) "tuple"
  | lst {a : Addr} {xs : List V} (e : H a = some (.lst xs)) : Odd H (.ref a) "list"
abbrev OddT (t : String) : Prop := t = "int" ∨ t = "str" ∨ t = "NoneType" ∨ t = "tuple" ∨ t = "list"
theorem Odd.one {H : Hp} {o : V} {t : String} (h : Odd H o t) : OddT t := by
  cases h <;> simp [OddT]
theorem Odd.ty {K : PySem.W.Frag} {H : Hp} {o : V} {t : String} (h : Odd H o t) : TyX K H o (.type t) := by
  cases h with
  | int i => exact .base (.int i)
  | str x => exact .base (.str x)
  | non => exact .base .non
  | tup e => exact .base (.tup e)
  | lst e => exact .base (.lst e)
theorem Odd.same {H H' : Hp} {o : V} {t : String} (h : Odd H o t) (s : Same H H') : Odd H' o t := by
  cases h with
  | int i => exact .int i
  | str x => exact .str x
  | non => exact .non
  | tup e => exact .tup (s _ _ e)
  | lst e => exact .lst (s _ _ e)
structure KitC (K : PySem.W.Frag) (C : Addr) : Prop where
  me : PySem.W.kitOne K (.ref C) (.ref C) = some true
  no : ∀ t : String, OddT t → PySem.W.kitOne K (.type t) (.ref C) = some false
  sub : ∀ t : String, OddT t → PySem.W.subIn K (.type t) (.ref C) = some false
theorem kitC_mk {K : PySem.W.Frag} {C : Addr} (ty : PySem.W.typeIn K (.ref C) = some (.type "type")) (mo : PySem.W.mroIn K C (.type "object") = some true) (s1 : PySem.W.subIn K (.type "int") (.ref C) = some false)
    (s2 : PySem.W.subIn K (.type "str") (.ref C) = some false) (s3 : PySem.W.subIn K (.type "NoneType") (.ref C) = some false) (s4 : PySem.W.subIn K (.type "tuple") (.ref C) = some false) (s5 : PySem.W.subIn K (.type "list") (.ref C) = some false) : KitC K C := by
  have cl : (PySem.W.clsIn K C).isSome = true := by
    unfold PySem.W.mroIn at mo
    cases e : PySem.W.clsIn K C with
    | none => rw [e] at mo; cases mo
    | some c => rfl
  have sub : ∀ t : String, OddT t → PySem.W.subIn K (.type t) (.ref C) = some false := fun t ht => by
    rcases ht with rfl | rfl | rfl | rfl | rfl
    · exact s1
    · exact s2
    · exact s3
    · exact s4
    · exact s5
  refine ⟨?_, fun t ht => ?_, sub⟩
  · unfold PySem.W.kitOne
    simp
  · have q : (Value.type t == Value.ref C) = false := rfl
    unfold PySem.W.kitOne
    rw [q]
    simp only [Bool.false_eq_true, if_false]
    unfold PySem.W.kitCls
    dsimp only
    rw [cl, ty]
    simp only [beq_self_eq_true, Bool.and_self, if_true]
    exact sub t ht
section
variable {X : Cx} {pins : List (Addr × Obj)} {σ : L2.St} {H : Hp} {s : Shared} {n : Nat} {f C : Addr} {fd : FuncData} {ps : List Str} {sp : Sp}
/-- a def of the written part is run somewhere below -/
theorem own_run {A : Around} {vs : List V} {us : List Value} {Q : VK} {E : Value → Shared → Prop} (fr : A.frames = some X.stack) (room : Room n A) (F : FnOk X.prog X.w X.K X.mg X.base CX0 n f fd ps sp) (bd : Binds X.K fd ps [])
    (I : Inv X pins σ H s) (rv : Vals vs us) (hsp : sp vs H Q E0) : wpAny (model X.prog X.w) A (call (.ref f) us) (EP X pins σ Q) E s := by
  have en : Env0 X.prog X.w X.K X.mg X.base A X.stack s H := by
    have z := I.env0
    exact ⟨fr, z.mod, z.bs, z.bsz, z.funs, z.frf, z.hok, z.bare⟩
  have hl : vs.length = ps.length := F.len _ _ _ _ hsp
  have b1 := bd s us I.kIn (by simpa [← rv.length] using hl)
  rw [List.append_nil] at b1
  refine wpAny_call (codeAny_mono (F.run A X.stack s H ⟨us, []⟩ us vs _ E0 room en b1 rv hsp) fun r s2 hr => ?_)
  match r, hr with
  | .error z, hr => exact False.elim hr
  | .ok .next, hr => exact False.elim hr
  | .ok .brk, hr => exact False.elim hr
  | .ok .cont, hr => exact False.elim hr
  | .ok (.ret u), hr => exact I.after hr
theorem odd_looks {y : V} {v : Value} {t : String} (I : Inv X pins σ H s) (rv : RelV y v) (o : Odd H y t) : PySem.W.Looks (model X.prog X.w) s.heap (typeOf v) (.type t) := by
  obtain ⟨P, Z, p, _⟩ := kit_of I rv (o.ty (K := X.K))
  exact Z.ty _ _ I.kIn p
/-- day == thing -/
def rEqL (C : Addr) (sp : Sp) : R2 := fun x y H Q => ∃ (a dx : Addr) (fs : List (Str × V)), x = .ref a ∧ H a = some (.ins C dx fs) ∧ ((∃ t, Odd H y t) ∨ ∃ b dz gs, y = .ref b ∧ H b = some (.ins C dz gs)) ∧
  sp [.ref a, y] H (fun z H' => ∃ b, z = .bl b ∧ Q (.bl b) H') E0
theorem op_eqL (W : OwnC X.K C f) (Z : KitC X.K C) (room : Room n X.A) (F : FnOk X.prog X.w X.K X.mg X.base CX0 n f fd ps sp) (bd : Binds X.K fd ps []) : OpR X (compareOp .Eq) (rEqL C sp) := by
  intro pins s σ H x y u v Q I rx ry h
  obtain ⟨a, dx, fs, rfl, ha, hy, hsp⟩ := h
  cases rx
  have fin : ∀ tb, PySem.W.Looks (model X.prog X.w) s.heap (typeOf v) tb → PySem.W.notFirst X.K C tb = true → wpAny (model X.prog X.w) X.A (compareOp .Eq (.ref a) v) (EP X pins σ Q) X.xe s := fun tb hb nf => by
    show wpAny (model X.prog X.w) X.A (richCompare .Eq (.ref a) v) _ _ s
    refine wpAny_mono (rc_L (Q := fun b H' => Q (.bl b) H') W I.ok.frames room F bd I ha ry hb nf hsp) (fun z s' hz => ?_) fun _ _ z => z
    obtain ⟨b, H', rfl, I', q⟩ := hz
    exact ⟨.bl b, H', I', rfl, q⟩
  rcases hy with ⟨t, o⟩ | ⟨b, dz, gs, rfl, hb⟩
  · refine fin _ (odd_looks I ry o) ?_
    unfold PySem.W.notFirst
    rw [Z.sub t o.one]
    simp
  · cases ry
    obtain ⟨mB, JB, _⟩ := ins_get I.hok hb
    obtain ⟨oB, JB, _⟩ := JB.look
    exact fin _ JB.type (by simp [PySem.W.notFirst])
/-- day != day -/
def rNeL (C : Addr) (sp : Sp) : R2 := fun x y H Q => ∃ (a dx : Addr) (fs : List (Str × V)) (b dz : Addr) (gs : List (Str × V)), x = .ref a ∧ H a = some (.ins C dx fs) ∧ y = .ref b ∧ H b = some (.ins C dz gs) ∧
  sp [.ref a, y] H (fun z H' => ∃ b, z = .bl b ∧ Q (.bl (!b)) H') E0
theorem op_neL (W : OwnC X.K C f) (room : Room (n + 1) X.A) (F : FnOk X.prog X.w X.K X.mg X.base CX0 n f fd ps sp) (bd : Binds X.K fd ps []) : OpR X (compareOp .NotEq) (rNeL C sp) := by
  intro pins s σ H x y u v Q I rx ry h
  obtain ⟨a, dx, fs, b, dz, gs, rfl, ha, rfl, hb, hsp⟩ := h
  cases rx
  cases ry
  obtain ⟨mB, JB, _⟩ := ins_get I.hok hb
  obtain ⟨oB, JB, _⟩ := JB.look
  show wpAny (model X.prog X.w) X.A (richCompare .NotEq (.ref a) (.ref b)) _ _ s
  refine wpAny_mono (rc_N (Q := fun b H' => Q (.bl b) H') (y := .ref b) W I.ok.frames room F bd I ha rfl JB.type (by simp [PySem.W.notFirst]) hsp) (fun z s' hz => ?_) fun _ _ z => z
  obtain ⟨b, H', rfl, I', q⟩ := hz
  exact ⟨.bl b, H', I', rfl, q⟩
/-- thing == day -/
def rEqR (C : Addr) (sp : Sp) : R2 := fun x y H Q => ∃ (a dx : Addr) (fs : List (Str × V)), y = .ref a ∧ H a = some (.ins C dx fs) ∧
  (((∃ t, Odd H x t) ∧ sp [.ref a, x] H (fun z H' => ∃ b, z = .bl b ∧ Q (.bl b) H') E0) ∨ ∃ b dz gs, x = .ref b ∧ H b = some (.ins C dz gs) ∧ sp [.ref b, .ref a] H (fun z H' => ∃ b, z = .bl b ∧ Q (.bl b) H') E0)
theorem op_eqR (W : OwnC X.K C f) (room : Room n X.A) (F : FnOk X.prog X.w X.K X.mg X.base CX0 n f fd ps sp) (bd : Binds X.K fd ps []) : OpR X (compareOp .Eq) (rEqR C sp) := by
  intro pins s σ H x y u v Q I rx ry h
  obtain ⟨a, dx, fs, rfl, ha, h⟩ := h
  cases ry
  show wpAny (model X.prog X.w) X.A (richCompare .Eq u (.ref a)) _ _ s
  have fin : ∀ {A : Around} {z : Value} {s' : Shared}, BP X pins σ (fun b H' => Q (.bl b) H') z s' → EP X pins σ Q z s' := fun {A z s'} hz => by
    obtain ⟨b, H', rfl, I', q⟩ := hz
    exact ⟨.bl b, H', I', rfl, q⟩
  obtain ⟨mA, J, eI⟩ := ins_get I.hok ha
  obtain ⟨oA, J', _⟩ := J.look
  rcases h with ⟨⟨t, o⟩, hsp⟩ | ⟨b, dz, gs, rfl, hb, hsp⟩
  · cases o with
    | int i =>
      obtain ⟨tk, rfl⟩ := rx
      refine wpAny_mono (rc_R (Q := fun b H' => Q (.bl b) H') (y := .int i) W I.ok.frames room F bd I ha ⟨tk, rfl⟩ (typeIs_int _ _ _) rfl W.sInt PySem.F.slot_int_eq (fun E' => dec_int J.obj) hsp) (fun z s' hz => fin (A := X.A) hz) fun _ _ z => z
    | str i =>
      obtain ⟨tk, rfl⟩ := rx
      refine wpAny_mono (rc_R (Q := fun b H' => Q (.bl b) H') (y := .str i) W I.ok.frames room F bd I ha ⟨tk, rfl⟩ (typeIs_str _ _ _) rfl W.sStr PySem.F.slot_str_eq (fun E' => dec_str J.obj) hsp) (fun z s' hz => fin (A := X.A) hz) fun _ _ z => z
    | non =>
      cases rx
      refine wpAny_mono (rc_R (Q := fun b H' => Q (.bl b) H') (y := .non) W I.ok.frames room F bd I ha rfl (T := "NoneType") rfl rfl W.sNon PySem.F.slot_NoneType_eq (fun E' => dec_none) hsp) (fun z s' hz => fin (A := X.A) hz) fun _ _ z => z
    | @tup b xs e =>
      cases rx
      obtain ⟨_, _, _, ob, h1, h2, _⟩ := (show ObjOk X.prog X.w H s.heap b (.tup xs) from I.hok b _ e)
      refine wpAny_mono (rc_R (Q := fun b H' => Q (.bl b) H') (y := .ref b) W I.ok.frames room F bd I ha rfl (T := "tuple") ⟨ob, h1, h2⟩ rfl W.sTup PySem.F.slot_tuple_eq (fun E' => dec_tup ⟨ob, h1, h2⟩ J' I.kIn W.sTup) hsp) (fun z s' hz => fin (A := X.A) hz) fun _ _ z => z
    | @lst b xs e =>
      cases rx
      obtain ⟨_, _, k, _, h1⟩ := (show ObjOk X.prog X.w H s.heap b (.lst xs) from I.hok b _ e)
      refine wpAny_mono (rc_R (Q := fun b H' => Q (.bl b) H') (y := .ref b) W I.ok.frames room F bd I ha rfl (T := "list") ⟨_, h1, rfl⟩ rfl W.sLst PySem.F.slot_list_eq (fun E' => dec_lst ⟨_, h1, rfl⟩ J' I.kIn W.sLst) hsp) (fun z s' hz => fin (A := X.A) hz) fun _ _ z => z
  · cases rx
    refine wpAny_mono (rc_L (Q := fun b H' => Q (.bl b) H') (y := .ref a) W I.ok.frames room F bd I hb rfl J'.type (by simp [PySem.W.notFirst]) hsp) (fun z s' hz => fin (A := X.A) hz) fun _ _ z => z
/-- str(o) by its own __str__ -/
theorem cr_strO (hs : PySem.W.findIn X.K (.ref C) "__str__" = some (some (.ref f))) (hf : PySem.W.isFn X.K (.ref f) = true) (room : Room (n + 2) X.A) (F : FnOk X.prog X.w X.K X.mg X.base CX0 n f fd ps sp) (bd : Binds X.K fd ps []) :
    CallR X (.type "str") (fun xs H Q => ∃ (a dx : Addr) (fs : List (Str × V)), xs = [.ref a] ∧ H a = some (.ins C dx fs) ∧ sp [.ref a] H (fun z H' => ∃ y, z = .str y ∧ Q (.str y) H') E0) := by
  intro pins s σ H xs us Q I r h
  obtain ⟨a, dx, fs, rfl, ha, hsp⟩ := h
  obtain ⟨u, rfl, rx⟩ := vals1 r
  cases rx
  obtain ⟨mA, J, _⟩ := ins_get I.hok ha
  obtain ⟨oA, J, _⟩ := J.look
  refine PySem.W.kso_call room.in1.in1.units0 I.kIn J hs hf (wpAny_mono (own_run (A := X.A.in1.in1) (vs := [.ref a]) I.ok.frames room.in1.in1 F bd I (.cons rfl .nil) hsp) (fun v s' hv => ?_) fun _ _ z => z)
  obtain ⟨v', H', I', rv, y, rfl, q⟩ := hv
  obtain ⟨tk, rfl⟩ := rv
  exact ⟨.str y, H', I', ⟨tk, rfl⟩, q⟩
/-- repr(o) by its own __repr__ -/
theorem cr_reprO (hs : PySem.W.findIn X.K (.ref C) "__repr__" = some (some (.ref f))) (hf : PySem.W.isFn X.K (.ref f) = true) (room : Room (n + 1) X.A) (F : FnOk X.prog X.w X.K X.mg X.base CX0 n f fd ps sp) (bd : Binds X.K fd ps []) :
    CallR X (.builtin "repr") (fun xs H Q => ∃ (a dx : Addr) (fs : List (Str × V)), xs = [.ref a] ∧ H a = some (.ins C dx fs) ∧ sp [.ref a] H (fun z H' => ∃ y, z = .str y ∧ Q (.str y) H') E0) := by
  intro pins s σ H xs us Q I r h
  obtain ⟨a, dx, fs, rfl, ha, hsp⟩ := h
  obtain ⟨u, rfl, rx⟩ := vals1 r
  cases rx
  obtain ⟨mA, J, _⟩ := ins_get I.hok ha
  obtain ⟨oA, J, _⟩ := J.look
  refine Calls.call_function_entry PySem.F.kind_repr PySem.F.plain_repr PySem.F.entry_repr (PySem.F.args_repr1 _) ?_
  unfold Builtin.«repr»
  refine wpAny_bind (m := oneArg "repr" _) (wpAny_pure ?_)
  refine wpAny_bind (wpAny_cRoomFor room.in1.units0 ?_)
  refine wpAny_bind (wpAny_bind (J.type.here ((PySem.W.looks_findIn I.kIn hs).here ?_)))
  refine wpAny_bind (m := callSpecialIfBound? (.ref a) (Str.ofString "__repr__") _) (PySem.W.ifBound_K I.kIn J hs hf (wpAny_mono (own_run (A := X.A.in1) (vs := [.ref a]) I.ok.frames room.in1 F bd I (.cons rfl .nil) hsp) (fun v s' hv => ?_) fun _ _ z => z))
  obtain ⟨v', H', I', rv, y, rfl, q⟩ := hv
  obtain ⟨tk, rfl⟩ := rv
  refine wpAny_bind (wpAny_isInstance (T := "str") (b := true) rfl isSubtype_str_str ?_)
  exact wpAny_pure ⟨_, rfl, .str y, H', I', ⟨tk, rfl⟩, q⟩
end
section
variable {X : Cx}
theorem cr_alt {f : Value} {r1 r2 : List V → Hp → VK → Prop} (h1 : CallR X f r1) (h2 : CallR X f r2) : CallR X f (fun xs H Q => r1 xs H Q ∨ r2 xs H Q) :=
  fun pins s σ H xs us Q I r h => h.elim (h1 pins s σ H xs us Q I r) (h2 pins s σ H xs us Q I r)
end
theorem ps_no {X : Cx} {st : Stmt} : PS X st (fun _ _ _ => False) := ⟨fun _ _ _ _ _ _ h => False.elim h⟩
theorem dInt (i j : Int) : decide (V.int i = V.int j) = decide (i = j) := decide_eq_decide.mpr ⟨fun z => V.int.inj z, fun z => by rw [z]⟩
theorem fitN {n : Nat} (h : n ≤ 100000) : n ≤ sizeLine := Nat.le_trans h (by decide)
theorem lg {i : Int} (h0 : -(10 ^ 31) < i) (h1 : i < 10 ^ 31) : i.natAbs.log2 < 1920 := by
  have h2 : i.natAbs < 2 ^ 110 := by
    have : (10 : Int) ^ 31 < 2 ^ 110 := by decide
    omega
  exact Nat.lt_of_lt_of_le (PySem.Flt.log2_lt_of (by decide) h2) (by decide)
theorem big39 : (10 : Int) ^ 30 < 10 ^ 39 := by decide
theorem tx_le {i : Int} (h0 : -(10 ^ 30) ≤ i) (h1 : i ≤ 10 ^ 30) : (Str.ofString (toString i)).length ≤ 40 := by
  have b := big39
  cases i with
  | ofNat m =>
    have c : (Int.ofNat m) = (m : Int) := rfl
    exact Nat.le_trans (toString_length_le (v := (m : Int)) (by omega) (k := 39) (by decide) (by omega)) (by decide)
  | negSucc m =>
    have c : Int.negSucc m = -((m : Int) + 1) := rfl
    have z := toString_length_le (v := ((m + 1 : Nat) : Int)) (by omega) (k := 39) (by decide) (by omega)
    rw [PySem.ofString_length] at z ⊢
    have z2 : (toString (m + 1)).length ≤ 39 := z
    show ("-" ++ toString (m + 1)).length ≤ 40
    rw [String.length_append]
    have : "-".length = 1 := rfl
    omega
/-! ## parts that make a day -/
def isI : V → Bool
  | .int _ => true
  | _ => false
def wiV (v : V) (a b : Int) : Bool := match v with
  | .int i => decide (a ≤ i) && decide (i ≤ b)
  | _ => false
def goodV (y m d : V) : Bool := match y with
  | .int i => wiV y 1 9999 && (if m = .non then decide (d = .non) else match m with
    | .int j => wiV m 1 12 && (if d = .non then true else wiV d 1 (lastDay i j))
    | _ => false)
  | _ => false
theorem good_no {y m d : V} (h : wiV y 1 9999 = false) : goodV y m d = false := by
  cases y with
  | int i =>
    show (wiV (.int i) 1 9999 && _) = false
    rw [h, Bool.false_and]
  | _ => rfl
theorem good_non {i : Int} {d : V} (h : wiV (.int i) 1 9999 = true) : goodV (.int i) .non d = decide (d = .non) := by
  show (wiV (.int i) 1 9999 && (if V.non = V.non then decide (d = .non) else _)) = _
  rw [h, Bool.true_and, if_pos rfl]
theorem good_m {i : Int} {m d : V} (h : wiV (.int i) 1 9999 = true) (n : m ≠ .non) (h2 : wiV m 1 12 = false) : goodV (.int i) m d = false := by
  unfold goodV
  dsimp only
  rw [if_neg n]
  cases m with
  | int j =>
    dsimp only
    rw [h2, Bool.false_and, Bool.and_false]
  | _ => exact Bool.and_false _
theorem good_d {i j : Int} {d : V} (h : wiV (.int i) 1 9999 = true) (h2 : wiV (.int j) 1 12 = true) : goodV (.int i) (.int j) d = (if d = .non then true else wiV d 1 (lastDay i j)) := by
  show (wiV (.int i) 1 9999 && (if V.int j = V.non then decide (d = .non) else (wiV (.int j) 1 12 && (if d = .non then true else wiV d 1 (lastDay i j))))) = _
  rw [if_neg (by intro z; cases z), h, h2, Bool.true_and, Bool.true_and]
theorem wiV_int {v : V} {a b : Int} (h : wiV v a b = true) : ∃ i, v = .int i ∧ a ≤ i ∧ i ≤ b := by
  cases v with
  | int i =>
    have h' : (decide (a ≤ i) && decide (i ≤ b)) = true := h
    rw [Bool.and_eq_true] at h'
    exact ⟨i, rfl, of_decide_eq_true h'.1, of_decide_eq_true h'.2⟩
  | _ => cases h
def zeros (n : Nat) : Str := ⟨(List.replicate n 48).toArray⟩
def nDig (i : Int) : Nat := (Nat.toDigits 10 i.natAbs).length
def zpad (W : Nat) (i : Int) : Str := zeros (W - nDig i) ++ Str.ofString (toString i)
theorem len_text {i : Int} (h : 0 ≤ i) : (Str.ofString (toString i)).length = nDig i := by
  obtain ⟨m, rfl⟩ := Int.eq_ofNat_of_zero_le h
  have e := text_ofNat m
  have e2 : Str.ofString (toString ((m : Nat) : Int)) = ⟨((Nat.toDigits 10 m).map Char.toNat).toArray⟩ := e
  rw [e2]
  show ((Nat.toDigits 10 m).map Char.toNat).toArray.size = _
  rw [List.size_toArray, List.length_map]
  rfl
def Tiny (i : Int) : Prop := 0 ≤ i ∧ i < 10000
theorem nDig_le {i : Int} (h : Tiny i) : nDig i ≤ 4 := (digitsFacts10 i.natAbs).lt10000 (by have := h.1; have := h.2; omega)
theorem nDig_le2 {i : Int} (h : 0 ≤ i) (h2 : i < 100) : nDig i ≤ 2 := (digitsFacts10 i.natAbs).lt100 (by omega)
theorem zeros_len (n : Nat) : (zeros n).length = n := by
  show (List.replicate n 48).toArray.size = n
  simp
theorem zpad_len {W : Nat} {i : Int} (hW : W ≤ 4) (h : Tiny i) : (zpad W i).length ≤ 4 := by
  unfold zpad
  rw [strLen_append, zeros_len, len_text h.1]
  have := nDig_le h
  omega
section
variable {X : Cx}
/-- {i:0Wd} -/
def tFmtS (W : Nat) (te : TE) : TE := fun σ H Q => te σ H fun x H1 => ∃ i : Int, x = .int i ∧ Tiny i ∧ Q (.str (zpad W i)) H1
theorem pe_fmtS {e sp : Expr} {te : TE} {spec : Str} {W : Nat} {pos : Pos} (nd : X.base.NoDigits) (hok : intSpecOk spec = true) (hW : intSpecWidthOf spec = W) (hz : intSpecZeroOf spec = true) (hsz : spec.length ≤ sizeLine) (he : PE X e te)
    (hs : PE X sp (tC (.str spec))) : PE X (.FormattedValue e (-1) (some sp) pos) (tFmtS W te) := by
  refine ⟨fun pins s σ H Q I h => ?_⟩
  refine wpAny_FormattedValue_spec (thn (he.run pins s σ H _ I h) fun v s1 hv => ?_)
  obtain ⟨x, H1, I1, r1, i, rfl, hi, q⟩ := hv
  obtain ⟨t, rfl⟩ := r1
  refine thn (hs.run pins s1 σ H1 (fun v H' => v = .str spec ∧ H' = H1) I1 ⟨rfl, rfl⟩) fun r s2 hr => ?_
  obtain ⟨v, H2, I2, r2, rfl, rfl⟩ := hr
  obtain ⟨t2, rfl⟩ := r2
  have a := hi.1
  have b := hi.2
  refine ⟨spec, t2, rfl, formatField_int_specOf (nd.keeps fun b o z => (I2.env0.bs b o z).1) (lt_digitLimit_of_lt (by omega)) hok (fun W' hW' F => ?_) hsz⟩
  have e : intSpecTextOf spec i = zpad W i := by
    rw [F.zeroG hz a, hW', hW]
    rfl
  rw [e]
  exact ⟨.str (zpad W i), H2, I2.tok _, ⟨_, rfl⟩, q⟩
/-- "0" * n -/
theorem op_zeros : OpR X (binaryOp .Mult) (fun x y H Q => ∃ n : Nat, x = .str "0" ∧ y = .int n ∧ n ≤ 4 ∧ Q (.str (zeros n)) H) := by
  intro pins s σ H x y v u Q I rx ry h
  obtain ⟨n, rfl, rfl, hn, q⟩ := h
  obtain ⟨t, rfl⟩ := rx
  obtain ⟨t2, rfl⟩ := ry
  have z0 : ("0" : Str) = ⟨#[48]⟩ := by decide +kernel
  match n, hn, q with
  | 0, _, q => exact PySem.P.mul_str_none (by decide) (by decide) ⟨.str (zeros 0), H, I.tok _, ⟨_, rfl⟩, q⟩
  | 1, _, q =>
    refine PySem.P.mul_str (by decide) (fun _ z => by cases z) (fun _ z => by cases z) ?_
    show EP X pins σ Q (.str "0" t) s
    refine ⟨.str (zeros 1), H, I, ⟨t, by rw [z0]; rfl⟩, q⟩
  | 2, _, q => exact PySem.P.mul_str (by decide) (fun _ _ => by decide +kernel) (fun _ _ => by decide +kernel) ⟨by decide +kernel, .str (zeros 2), H, I.tok _, ⟨_, by rw [z0]; rfl⟩, q⟩
  | 3, _, q => exact PySem.P.mul_str (by decide) (fun _ _ => by decide +kernel) (fun _ _ => by decide +kernel) ⟨by decide +kernel, .str (zeros 3), H, I.tok _, ⟨_, by rw [z0]; rfl⟩, q⟩
  | 4, _, q => exact PySem.P.mul_str (by decide) (fun _ _ => by decide +kernel) (fun _ _ => by decide +kernel) ⟨by decide +kernel, .str (zeros 4), H, I.tok _, ⟨_, by rw [z0]; rfl⟩, q⟩
end
end K69
set_option Elab.async false
set_option linter.all false
set_option maxRecDepth 100000
set_option maxHeartbeats 4000000
set_option pp.maxSteps 400
set_option pp.deepTerms false
namespace K69
open PySem PySem.Spec PyProof.Rows L2
open Xk Az Xtx
section
variable {P : Program} {w : World} {K : PySem.W.Frag} {mg : Str → Option Value} {base : Heap} {C CL : Addr}
/-- a def that may be called by its name -/
structure Ca (P : Program) (w : World) (K : PySem.W.Frag) (mg : Str → Option Value) (base : Heap) (k : Nat) (x : Str) (ps : List Str) (sp : Sp) : Prop where
  ex : ∃ (f : Addr) (fd : FuncData), FnOk P w K mg base CX0 k f fd ps sp ∧ mg x = some (.ref f) ∧ PySem.W.keepIn K (.ref f) = true ∧ Binds K fd ps []
/-- a def of the text, as the head finds it -/
structure Df (K : PySem.W.Frag) (mg : Str → Option Value) (x : Str) (ps : List Str) (st : Stmt) (f : Addr) (fd : FuncData) : Prop where
  fn : Fun K x x st f fd
  mgf : mg x = some (.ref f)
  bd : Binds K fd ps []
theorem Df.ca {k : Nat} {x : Str} {ps : List Str} {st : Stmt} {f : Addr} {fd : FuncData} {sp : Sp} (d : Df K mg x ps st f fd)
    (h : FnOk P w K mg base CX0 k f fd ps sp) : Ca P w K mg base k x ps sp := ⟨f, fd, h, d.mgf, d.fn.kp, d.bd⟩
section
variable {X : Cx} {k j : Nat} {x : Str} {ps : List Str} {sp : Sp} {p pos : Pos} {e : Expr} {es : List Expr} {t : TA}
theorem pe_ca (c : Ca X.prog X.w X.K X.mg X.base k x ps sp) (hr : Room j X.A) (hk : k ≤ j) (hg : Gl X x) (ha : PA X (e :: es) t) (hdb : (x == ("__debug__" : Str)) = false := by decide)
    (he : starEach (e :: es) X.env = (false, eval e X.env) :: starEach es X.env := by rfl) (hpl : (backTo pos (starEach es X.env)).any (·.1) = false := by rfl) :
    PE X (.Call (.Name x p) (e :: es) [] pos) (tCall sp [] E0 t) := by
  obtain ⟨f, fd, F, hm, kp, b⟩ := c.ex
  exact pe_call F (hr.mono hk) hg hm kp b .nil pass0 ha hdb he hpl
end
/-- the refusals: where their classes stand -/
structure Ex where
  NotSuch : Addr
  Lost : Addr
  Taken : Addr
  NoCustom : Addr
  NoDay : Addr
  NoDisc : Addr
  NoEntry : Addr
  NoKey : Addr
  NoLength : Addr
  NoLine : Addr
  NoName : Addr
  NoNumber : Addr
  NoPath : Addr
  Same : Addr
  Struck : Addr
  Twice : Addr
  NoText : Addr
def small : Str := "abcdefghijklmnopqrstuvwxyz"
def signs : Str := "abcdefghijklmnopqrstuvwxyzABCDEFGHIJKLMNOPQRSTUVWXYZ0123456789 '-."
def figs : Str := "0123456789"
def codes : Str := "ABCDEFGHIJKLMNOPQRSTUVWXYZ0123456789"
/-- the fields, and the words ahead of what is told in them -/
def flds : List Str := ["code", "title", "players", "day", "length"]
def wrds : List Str := ["code", "title", "by", "day", "long"]
/-- a dict of the top, with the fields as keys -/
structure Kd (K : PySem.W.Frag) (w : World) (mg : Str → Option Value) (x : Str) (vs : List V) : Prop where
  ex : ∃ (a : Addr) (es : Array DictEntry) (n : Nat), mg x = some (.ref a) ∧ K.lookup a = some ⟨.type "dict", none, .dict es n, #[]⟩ ∧ PySem.W.KeysLit w.params es.toList ∧
    ∀ (i : Nat) (k : Str) (v : V), flds[i]? = some k → vs[i]? = some v → ∃ u, findBy Value.isStrOf es k = some u ∧ RelV v u
/-- where the readers of the fields stand -/
structure Fs where
  code : Addr
  name : Addr
  names : Addr
  day : Addr
  len : Addr
/-- what the top has left, besides the defs -/
structure Txt (K : PySem.W.Frag) (mg : Str → Option Value) (C CL : Addr) (e : Ex) : Prop where
  cl : Cls K C
  nY : NoAttr K C "year"
  nM : NoAttr K C "month"
  nD : NoAttr K C "day"
  mgC : mg "Day" = some (.ref C)
  clL : Cls K CL
  nS : NoAttr K CL "seconds"
  mgL : mg "Length" = some (.ref CL)
  ind : ∃ t, mg "INDENT" = some (.str "  " t)
  ins : C8.InsC K C
  insL : C8.InsC K CL
  me : PySem.W.kitOne K (.ref C) (.ref C) = some true
  meL : PySem.W.kitOne K (.ref CL) (.ref CL) = some true
  cKEY_PARTS : ∃ t, mg "KEY_PARTS" = some (.int 2 t)
  cLONGEST_WORD : ∃ t, mg "LONGEST_WORD" = some (.int 8 t)
  cLONGEST_CODE : ∃ t, mg "LONGEST_CODE" = some (.int 12 t)
  cMOST_PLAYERS : ∃ t, mg "MOST_PLAYERS" = some (.int 8 t)
  cLAST_YEAR : ∃ t, mg "LAST_YEAR" = some (.int 9999 t)
  cMONTHS : ∃ t, mg "MONTHS" = some (.int 12 t)
  cFEBRUARY : ∃ t, mg "FEBRUARY" = some (.int 2 t)
  cMOST_SECONDS : ∃ t, mg "MOST_SECONDS" = some (.int 359999 t)
  cSHORTEST_TONGUE : ∃ t, mg "SHORTEST_TONGUE" = some (.int 2 t)
  cLONGEST_TONGUE : ∃ t, mg "LONGEST_TONGUE" = some (.int 3 t)
  cLONGEST_TEXT : ∃ t, mg "LONGEST_TEXT" = some (.int 40 t)
  cMOST_FIGURES : ∃ t, mg "MOST_FIGURES" = some (.int 30 t)
  cDAY_PARTS : ∃ t, mg "DAY_PARTS" = some (.int 3 t)
  cYEAR_FIGURES : ∃ t, mg "YEAR_FIGURES" = some (.int 4 t)
  cSMALL_LETTERS : ∃ t, mg "SMALL_LETTERS" = some (.str small t)
  cTEXT_SIGNS : ∃ t, mg "TEXT_SIGNS" = some (.str signs t)
  cFIGURES : ∃ t, mg "FIGURES" = some (.str figs t)
  cCODE_SIGNS : ∃ t, mg "CODE_SIGNS" = some (.str codes t)
  md : ∃ a, mg "MONTH_DAYS" = some (.ref a) ∧ ∀ H, SqT K H a ([31, 28, 31, 30, 31, 30, 31, 31, 30, 31, 30, 31].map V.int)
  fd : ∃ a, mg "FIELDS" = some (.ref a) ∧ (∃ o, K.lookup a = some o ∧ o.cls = .type "tuple" ∧ o.dict = none) ∧ ∀ H, SqT K H a (flds.map V.str)
  mNotSuch : mg "NotSuch" = some (.ref e.NotSuch)
  mLost : mg "Lost" = some (.ref e.Lost)
  mTaken : mg "Taken" = some (.ref e.Taken)
  mNoCustom : mg "NoCustom" = some (.ref e.NoCustom)
  mNoDay : mg "NoDay" = some (.ref e.NoDay)
  mNoDisc : mg "NoDisc" = some (.ref e.NoDisc)
  mNoEntry : mg "NoEntry" = some (.ref e.NoEntry)
  mNoKey : mg "NoKey" = some (.ref e.NoKey)
  mNoLength : mg "NoLength" = some (.ref e.NoLength)
  mNoLine : mg "NoLine" = some (.ref e.NoLine)
  mNoName : mg "NoName" = some (.ref e.NoName)
  mNoNumber : mg "NoNumber" = some (.ref e.NoNumber)
  mNoPath : mg "NoPath" = some (.ref e.NoPath)
  mSame : mg "Same" = some (.ref e.Same)
  mStruck : mg "Struck" = some (.ref e.Struck)
  mTwice : mg "Twice" = some (.ref e.Twice)
  mNoText : mg "NoText" = some (.ref e.NoText)
  isi : mg "isinstance" = none
  int : mg "int" = none
  bool : mg "bool" = none
  str : mg "str" = none
  tuple : mg "tuple" = none
  list : mg "list" = none
  len : mg "len" = none
  all : mg "all" = none
  any : mg "any" = none
  abs : mg "abs" = none
  range : mg "range" = none
  repr : mg "repr" = none
  max : mg "max" = none
  min : mg "min" = none
  sorted : mg "sorted" = none
  zip : mg "zip" = none
  enumerate : mg "enumerate" = none
  ValueError : mg "ValueError" = none
  divmod : mg "divmod" = none
  oex : OexC K e.NoText
  xc : XcC K e.NoText
  bi : BiC K e.NotSuch
  f1 : PySem.W.findIn K (.ref e.NoText) "row" = some none
  f2 : PySem.W.findIn K (.ref e.NoText) "wanted" = some none
  exm : PySem.W.exmAny K (.ref e.NoText) [.ref e.NotSuch, .ref e.Lost, .ref e.Taken] = some true
  kit1 : PySem.W.kitAny K (.ref e.NoText) [.ref e.Lost, .ref e.Taken, .ref e.NoCustom, .ref e.NoDay, .ref e.NoDisc, .ref e.NoEntry, .ref e.NoKey, .ref e.NoLength] = some false
  kit2 : PySem.W.kitAny K (.ref e.NoText) [.ref e.NoLine, .ref e.NoName, .ref e.NoNumber, .ref e.NoPath, .ref e.Same, .ref e.Struck, .ref e.Twice] = some false
  kit3 : PySem.W.kitOne K (.ref e.NoText) (.ref e.NoText) = some true
  kit4 : PySem.W.kitOne K (.ref e.NoText) (.ref e.NotSuch) = some true
  kit5 : PySem.W.kitOne K (.ref e.NoText) (.type "ValueError") = some true
def spWhole (K : PySem.W.Frag) : Sp := fun vs H Q _ => ∃ (v : V) (d : PyData), vs = [v] ∧ Dz K H v d ∧ Q (.bl (isI v)) H
def spWithin (K : PySem.W.Frag) : Sp := fun vs H Q _ => ∃ (v : V) (d : PyData) (a b : Int), vs = [v, .int a, .int b] ∧ Dz K H v d ∧ Q (.bl (wiV v a b)) H
def spLeap : Sp := fun vs H Q _ => ∃ y : Int, vs = [.int y] ∧ Q (.bl (leap y)) H
def spDaysIn : Sp := fun vs H Q _ => ∃ y m : Int, vs = [.int y, .int m] ∧ 1 ≤ m ∧ m ≤ 12 ∧ Q (.int (lastDay y m)) H
def spMakes (K : PySem.W.Frag) : Sp := fun vs H Q _ => ∃ (y m d : V) (dy dm dd : PyData), vs = [y, m, d] ∧ Dz K H y dy ∧ Dz K H m dm ∧ Dz K H d dd ∧ Q (.bl (goodV y m d)) H
theorem ok_whole {f : Addr} {fd : FuncData} {e : Ex} (D : Df K mg "is_whole" ["thing"] sIsWhole f fd) (T : Txt K mg C CL e) : FnOk P w K mg base CX0 1 f fd ["thing"] (spWhole K) := by
  refine D.fn.ok scIsWhole (fun vs H Q E h => ?_) (fun cdv A outer s H vs Q E hr h => ?_)
  · obtain ⟨v, d, rfl, h, q⟩ := h
    rfl
  · obtain ⟨v, d, rfl, h, q⟩ := h
    refine ⟨_, (pss_one (ps_ret (pe_and (pe_callB call_isi (by rfl) T.isi (by decide +kernel) (pa_cons (pv 0) (pa_cons (pe_bltn (v := .ty "int") (by rfl) T.int (by decide +kernel) rfl) pa_nil))) (pe_one (pe_not (pe_callB call_isi (by rfl) T.isi (by decide +kernel) (pa_cons (pv 0) (pa_cons (pe_bltn (v := .ty "bool") (by rfl) T.bool (by decide +kernel) rfl) pa_nil)))))))), ?_⟩
    cases h with
    | int i =>
      refine ⟨_, rfl, _, _, _, _, true, rfl, .ty _, (.base (.int i)), kit_ty (by decide +kernel), true, rfl, iteT ?_⟩
      exact ⟨_, rfl, _, _, _, _, false, rfl, .ty _, (.base (.int i)), kit_ty (by decide +kernel), false, rfl, q⟩
    | bl b =>
      refine ⟨_, rfl, _, _, _, _, true, rfl, .ty _, (.base (.bl b)), kit_ty (by decide +kernel), true, rfl, iteT ?_⟩
      exact ⟨_, rfl, _, _, _, _, true, rfl, .ty _, (.base (.bl b)), kit_ty (by decide +kernel), true, rfl, q⟩
    | non => exact ⟨_, rfl, _, _, _, _, false, rfl, .ty _, (.base .non : TyX K H .non (.type "NoneType")), kit_ty (by decide +kernel), false, rfl, iteF q⟩
    | str x => exact ⟨_, rfl, _, _, _, _, false, rfl, .ty _, (.base (.str x) : TyX K H (.str x) (.type "str")), kit_ty (by decide +kernel), false, rfl, iteF q⟩
    | lst e _ _ => exact ⟨_, rfl, _, _, _, _, false, rfl, .ty _, (.base (.lst e)), kit_ty (by decide +kernel), false, rfl, iteF q⟩
    | tup e _ => exact ⟨_, rfl, _, _, _, _, false, rfl, .ty _, (.base (.tup e)), kit_ty (by decide +kernel), false, rfl, iteF q⟩
    | dct e _ => exact ⟨_, rfl, _, _, _, _, false, rfl, .ty _, (.base (.dK e)), kit_ty (by decide +kernel), false, rfl, iteF q⟩
theorem ok_within {f : Addr} {fd : FuncData} (D : Df K mg "is_within" ["thing", "least", "most"] sIsWithin f fd) (cW : Ca P w K mg base 1 "is_whole" ["thing"] (spWhole K)) : FnOk P w K mg base CX0 2 f fd ["thing", "least", "most"] (spWithin K) := by
  refine D.fn.ok scIsWithin (fun vs H Q E h => ?_) (fun cdv A outer s H vs Q E hr h => ?_)
  · obtain ⟨v, d, a, b, rfl, h, q⟩ := h
    rfl
  · obtain ⟨v, d, a, b, rfl, h, q⟩ := h
    refine ⟨_, (pss_one (ps_ret (pe_and (pe_ca cW hr (by decide) (by rfl) (pa_cons (pv 0) pa_nil)) (pe_one (pe_chain op_le op_le (pv 1) (pv 0) (pv 2)))))), ?_⟩
    refine ⟨_, rfl, v, d, rfl, h, _, rfl, ?_⟩
    cases v with
    | int i =>
      refine iteT ⟨_, rfl, _, rfl, a, i, rfl, rfl, _, rfl, ?_⟩
      have q' : Q (.bl (decide (a ≤ i) && decide (i ≤ b))) H := q
      cases e : decide (a ≤ i) with
      | true =>
        rw [e, Bool.true_and] at q'
        exact iteT ⟨_, rfl, i, b, rfl, rfl, q'⟩
      | false =>
        rw [e, Bool.false_and] at q'
        exact iteF q'
    | _ => exact iteF q
theorem ok_leap {f : Addr} {fd : FuncData} (D : Df K mg "is_leap" ["year"] sIsLeap f fd) : FnOk P w K mg base CX0 1 f fd ["year"] spLeap := by
  refine D.fn.ok scIsLeap (fun vs H Q E h => ?_) (fun cdv A outer s H vs Q E hr h => ?_)
  · obtain ⟨y, rfl, _⟩ := h
    rfl
  · obtain ⟨y, rfl, q⟩ := h
    refine ⟨_, pss_one (ps_ret (pe_and (pe_cmpR op_eq (pe_op op_mod (pv 0) pe_int) pe_int (nomark _))
      (pe_one (pe_or (pe_cmpR op_ne (pe_op op_mod (pv 0) pe_int) pe_int (nomark _)) (pe_one (pe_cmpR op_eq (pe_op op_mod (pv 0) pe_int) pe_int (nomark _))))))), ?_⟩
    have e4 : decide (V.int (y % 4) = V.int 0) = decide (y % 4 = 0) := decide_eq_decide.mpr ⟨fun z => V.int.inj z, fun z => by rw [z]⟩
    have e1 : decide (V.int (y % 100) = V.int 0) = decide (y % 100 = 0) := decide_eq_decide.mpr ⟨fun z => V.int.inj z, fun z => by rw [z]⟩
    have e0 : decide (V.int (y % 400) = V.int 0) = decide (y % 400 = 0) := decide_eq_decide.mpr ⟨fun z => V.int.inj z, fun z => by rw [z]⟩
    refine ⟨_, rfl, y, 4, rfl, rfl, (by show (0 : Int) < 4; decide), rfl, _, rfl, ?_⟩
    rw [e4]
    refine ite2 (fun c4 => ?_) (fun c4 => ?_)
    · refine ⟨_, rfl, y, 100, rfl, rfl, (by show (0 : Int) < 100; decide), rfl, _, rfl, ?_⟩
      rw [e1]
      refine ite2 (fun c1 => ?_) (fun c1 => ?_)
      · have z : leap y = true := by
          have a := of_decide_eq_true c4
          have b : ¬ y % 100 = 0 := by simpa using c1
          unfold leap
          simp [a, b]
        rw [z] at q
        exact q
      · refine ⟨_, rfl, y, 400, rfl, rfl, (by show (0 : Int) < 400; decide), rfl, ?_⟩
        rw [e0]
        have z : leap y = decide (y % 400 = 0) := by
          have a := of_decide_eq_true c4
          have b : y % 100 = 0 := by simpa using c1
          unfold leap
          simp [a, b]
        rw [z] at q
        exact q
    · have z : leap y = false := by
        have a : ¬ y % 4 = 0 := by simpa using c4
        unfold leap
        simp [a]
      rw [z] at q
      exact q
theorem month_at (y m : Int) (h1 : 1 ≤ m) (h2 : m ≤ 12) (n : ¬ (m = 2 ∧ leap y = true)) :
    atI ([31, 28, 31, 30, 31, 30, 31, 31, 30, 31, 30, 31].map V.int) (m - 1) = some (.int (lastDay y m)) := by
  obtain ⟨j, rfl⟩ : ∃ j : Nat, m = (j : Int) + 1 := ⟨(m - 1).toNat, by omega⟩
  have hj : j < 12 := by omega
  rw [show (j : Int) + 1 - 1 = (j : Int) by omega]
  refine atI_nat ?_
  match j, hj with
  | 0, _ => simp [lastDay]
  | 1, _ =>
    have l : ¬ leap y = true := fun z => n ⟨by decide, z⟩
    simp [lastDay, l]
  | 2, _ => simp [lastDay]
  | 3, _ => simp [lastDay]
  | 4, _ => simp [lastDay]
  | 5, _ => simp [lastDay]
  | 6, _ => simp [lastDay]
  | 7, _ => simp [lastDay]
  | 8, _ => simp [lastDay]
  | 9, _ => simp [lastDay]
  | 10, _ => simp [lastDay]
  | 11, _ => simp [lastDay]
theorem ok_daysIn {f : Addr} {fd : FuncData} {e : Ex} (D : Df K mg "days_in" ["year", "month"] sDaysIn f fd) (T : Txt K mg C CL e) (cL : Ca P w K mg base 1 "is_leap" ["year"] spLeap) :
    FnOk P w K mg base CX0 2 f fd ["year", "month"] spDaysIn := by
  obtain ⟨tF, gF⟩ := T.cFEBRUARY
  obtain ⟨aM, gM, sM⟩ := T.md
  refine D.fn.ok scDaysIn (fun vs H Q E h => ?_) (fun cdv A outer s H vs Q E hr h => ?_)
  · obtain ⟨y, m, rfl, _⟩ := h
    rfl
  · obtain ⟨y, m, rfl, h1, h2, q⟩ := h
    refine ⟨_, pss_cons (ps_if (PW.pt (pw_and (pt_cmpR op_eq (pv 1) (pe_glob (v := .int 2) (by rfl) gF ⟨_, rfl⟩) (nomark _)) (pw_and1 (pt_val (pe_ca cL hr (by decide) (by rfl) (pa_cons (pv 0) pa_nil))))))
      (pss_one (ps_ret pe_int)) pss_nil)
      (pss_one (ps_ret (pe_ix ix_tup (pe_glob (v := .ref aM) (by rfl) gM rfl) (pe_op op_sub (pv 1) pe_int) (fun _ _ => rfl)))), ?_⟩
    refine ⟨_, rfl, rfl, _, rfl, ?_⟩
    rw [dInt]
    refine ite2 (fun c => ?_) (fun c => ?_)
    · have em : m = 2 := of_decide_eq_true c
      refine ⟨_, rfl, y, rfl, _, rfl, ?_⟩
      cases l : leap y with
      | true =>
        have z : lastDay y m = 29 := by
          rw [em]
          simp [lastDay, l]
        rw [z] at q
        exact iteT q
      | false => exact iteF ⟨_, rfl, m, 1, rfl, rfl, aM, _, m - 1, _, rfl, rfl, sM H, month_at y m h1 h2 (fun z => by rw [l] at z; cases z.2), q⟩
    · exact iteF ⟨_, rfl, m, 1, rfl, rfl, aM, _, m - 1, _, rfl, rfl, sM H, month_at y m h1 h2 (fun z => c (decide_eq_true z.1)), q⟩
theorem ok_makes {f : Addr} {fd : FuncData} {e : Ex} (D : Df K mg "makes_day" ["year", "month", "day"] sMakesDay f fd) (T : Txt K mg C CL e) (cI : Ca P w K mg base 2 "is_within" ["thing", "least", "most"] (spWithin K)) (cD : Ca P w K mg base 2 "days_in" ["year", "month"] spDaysIn) : FnOk P w K mg base CX0 3 f fd ["year", "month", "day"] (spMakes K) := by
  obtain ⟨tY, gY⟩ := T.cLAST_YEAR
  obtain ⟨tM, gM⟩ := T.cMONTHS
  refine D.fn.ok scMakesDay (fun vs H Q E h => ?_) (fun cdv A outer s H vs Q E hr h => ?_)
  · obtain ⟨y, m, d, dy, dm, dd, rfl, hy, hm, hd, q⟩ := h
    rfl
  · obtain ⟨y, m, d, dy, dm, dd, rfl, hy, hm, hd, q⟩ := h
    refine ⟨_, (pss_cons (ps_if (pt_not (pt_val (pe_ca cI hr (by decide) (by rfl) (pa_cons (pv 0) (pa_cons pe_int (pa_cons (pe_glob (v := .int 9999) (by rfl) gY ⟨_, rfl⟩) pa_nil)))))) (pss_one (ps_ret pe_bl)) pss_nil)
      (pss_cons (ps_if (pt_cmpR op_isN (pv 1) pe_non (nomark _)) (pss_one (ps_ret (pe_cmpR op_isN (pv 2) pe_non (nomark _)))) pss_nil)
      (pss_cons (ps_if (pt_not (pt_val (pe_ca cI hr (by decide) (by rfl) (pa_cons (pv 1) (pa_cons pe_int (pa_cons (pe_glob (v := .int 12) (by rfl) gM ⟨_, rfl⟩) pa_nil)))))) (pss_one (ps_ret pe_bl)) pss_nil)
      (pss_one (ps_ret (pe_or (pe_cmpR op_isN (pv 2) pe_non (nomark _)) (pe_one (pe_ca cI hr (by decide) (by rfl) (pa_cons (pv 2) (pa_cons pe_int (pa_cons (pe_ca cD hr (by decide) (by rfl) (pa_cons (pv 0) (pa_cons (pv 1) pa_nil))) pa_nil))))))))))), ?_⟩
    refine ⟨_, rfl, y, dy, 1, 9999, rfl, hy, _, rfl, ?_⟩
    cases cy : wiV y 1 9999 with
    | false =>
      rw [good_no cy] at q
      exact iteT q
    | true =>
      obtain ⟨i, rfl, _, _⟩ := wiV_int cy
      refine iteF ⟨_, rfl, rfl, _, rfl, ?_⟩
      refine ite2 (fun c => ?_) (fun c => ?_)
      · have em : m = .non := of_decide_eq_true c
        subst em
        rw [good_non cy] at q
        exact ⟨_, rfl, rfl, q⟩
      · have nm : m ≠ .non := fun z => c (decide_eq_true z)
        refine ⟨_, rfl, m, dm, 1, 12, rfl, hm, _, rfl, ?_⟩
        cases cm : wiV m 1 12 with
        | false =>
          rw [good_m cy nm cm] at q
          exact iteT q
        | true =>
          obtain ⟨j, rfl, j1, j2⟩ := wiV_int cm
          rw [good_d cy cm] at q
          refine iteF ⟨_, rfl, rfl, _, rfl, ?_⟩
          refine ite2 (fun c => ?_) (fun c => ?_)
          · rw [if_pos (of_decide_eq_true c)] at q
            exact q
          · rw [if_neg (fun z => c (decide_eq_true z))] at q
            exact ⟨_, rfl, _, rfl, _, rfl, i, j, rfl, j1, j2, d, dd, 1, lastDay i j, rfl, hd, q⟩
theorem len_cps (x : Str) : x.length = x.cps.toList.length := rfl
def isStr : PyData → Bool
  | .str _ => true
  | _ => false
def isTup : PyData → Bool
  | .tuple _ => true
  | _ => false
theorem z_str : ∀ d : PyData, PySem.W.kitOne K (.type (kindD d)) (.type "str") = some (isStr d)
  | .none => kit_ty (a := "NoneType") (b := "str") (r := false) (by decide +kernel)
  | .bool _ => kit_ty (a := "bool") (b := "str") (r := false) (by decide +kernel)
  | .int _ => kit_ty (a := "int") (b := "str") (r := false) (by decide +kernel)
  | .str _ => kit_ty (a := "str") (b := "str") (r := true) (by decide +kernel)
  | .list _ => kit_ty (a := "list") (b := "str") (r := false) (by decide +kernel)
  | .tuple _ => kit_ty (a := "tuple") (b := "str") (r := false) (by decide +kernel)
  | .dict _ => kit_ty (a := "dict") (b := "str") (r := false) (by decide +kernel)
theorem z_tup : ∀ d : PyData, PySem.W.kitOne K (.type (kindD d)) (.type "tuple") = some (isTup d)
  | .none => kit_ty (a := "NoneType") (b := "tuple") (r := false) (by decide +kernel)
  | .bool _ => kit_ty (a := "bool") (b := "tuple") (r := false) (by decide +kernel)
  | .int _ => kit_ty (a := "int") (b := "tuple") (r := false) (by decide +kernel)
  | .str _ => kit_ty (a := "str") (b := "tuple") (r := false) (by decide +kernel)
  | .list _ => kit_ty (a := "list") (b := "tuple") (r := false) (by decide +kernel)
  | .tuple _ => kit_ty (a := "tuple") (b := "tuple") (r := true) (by decide +kernel)
  | .dict _ => kit_ty (a := "dict") (b := "tuple") (r := false) (by decide +kernel)
def chk (x sg : Str) : Bool := x.cps.toList.all fun c => decide (c ∈ sg.cps.toList)
def ofT (d : PyData) (sg : Str) (a b : Int) : Bool := match d with
  | .str x => decide (a ≤ (x.length : Int)) && decide ((x.length : Int) ≤ b) && chk x sg
  | _ => false
def spTextOf (K : PySem.W.Frag) : Sp := fun vs H Q _ => ∃ (v : V) (d : PyData) (sg : Str) (a b : Int), vs = [v, .str sg, .int a, .int b] ∧ Dz K H v d ∧ (∀ x, d = .str x → x.length ≤ 50000) ∧ ∀ H', L2.Same H H' → Q (.bl (ofT d sg a b)) H'
theorem ok_of {f : Addr} {fd : FuncData} {e : Ex} (D : Df K mg "is_text_of" ["thing", "signs", "least", "most"] sIsTextOf f fd) (T : Txt K mg C CL e) : FnOk P w K mg base CX0 1 f fd ["thing", "signs", "least", "most"] (spTextOf K) := by
  refine D.fn.ok scIsTextOf (fun vs H Q E h => ?_) (fun cdv A outer s H vs Q E hr h => ?_)
  · obtain ⟨v, d, sg, a, b, rfl, hz, sz, q⟩ := h
    rfl
  · obtain ⟨v, d, sg, a, b, rfl, hz, sz, q⟩ := h
    refine ⟨_, (pss_cons (ps_if (PW.pt (pw_or (pt_not (pt_val (pe_callB call_isi (by rfl) T.isi (by decide +kernel) (pa_cons (pv 0) (pa_cons (pe_bltn (v := .ty "str") (by rfl) T.str (by decide +kernel) rfl) pa_nil))))) (pw_or1 (pt_not (pt_chain op_le op_le (pv 2) (pe_callB call_len_str (by rfl) T.len PySem.boot_len (pa_cons (pv 0) pa_nil)) (pv 3)))))) (pss_one (ps_ret pe_bl)) pss_nil)
      (pss_one (ps_ret (pe_callB (cr_all (by rfl)) (by rfl) T.all (by decide +kernel) (pa_cons (pe_lc (own := [("sign", 4)]) (g := gName 4) (tt := tYes) (by rfl) scIsTextOf.nd (pi_str (pv 0)) (blkOk_by (own := [("sign", 4)]) (N := ["thing", "signs", "least", "most", "sign"]) (sc := defScope sIsTextOf) (by decide +kernel)) (fun _ _ _ _ _ => pg_name (i := 4) scIsTextOf.nd rfl (.inl rfl)) (fun _ _ _ _ _ => pts_nil) (fun _ _ _ _ _ => pe_cmpR op_in_sign (pv 4) (pv 1) (by rfl))) pa_nil))))), ?_⟩
    refine ⟨_, rfl, _, _, _, _, isStr d, rfl, .ty _, hz.ty, z_str d, _, rfl, ?_⟩
    have qf : ofT d sg a b = false → Q (.bl false) H := fun e => by
      have w := q H (Same.refl H)
      rw [e] at w
      exact w
    cases hz with
    | str x =>
      have lx := sz x rfl
      have fit : x.length ≤ sizeLine := Nat.le_trans lx (by decide)
      refine iteF ⟨_, rfl, _, rfl, x, rfl, fit, a, _, rfl, rfl, _, rfl, ?_⟩
      have eo : ofT (.str x) sg a b = (decide (a ≤ (x.length : Int)) && decide ((x.length : Int) ≤ b) && chk x sg) := rfl
      cases c1 : decide (a ≤ (x.length : Int)) with
      | false => exact iteF ⟨_, rfl, iteT (qf (by rw [eo, c1]; rfl))⟩
      | true =>
        refine iteT ⟨_, rfl, _, b, rfl, rfl, _, rfl, ?_⟩
        cases c2 : decide ((x.length : Int) ≤ b) with
        | false => exact iteT (qf (by rw [eo, c1, c2]; rfl))
        | true =>
          refine iteF ⟨_, rfl, x, rfl, fun L nL => ?_⟩
          have sL := same_upd nL (o := .lst [])
          refine lc_it (walk_str (z := x)) (fun i Hi => ∃ bs : List Bool, bs = (x.cps.toList.take i).map (fun c => decide (c ∈ sg.cps.toList)) ∧ Hi L = some (.lst (bs.map V.bl)) ∧ L2.Same H Hi) ?_ (fun _ _ _ _ => trivial) ?_ ?_
          · exact ⟨[], rfl, upd_same, sL⟩
          · rintro i v Hi Hi' _ ⟨bs, eb, eL, sm⟩ ⟨rfl, c, ec, rfl⟩
            rw [← Array.getElem?_toList] at ec
            refine ⟨rfl, ?_⟩
            unfold tYes
            refine iteT ⟨_, rfl, _, rfl, c, sg, rfl, rfl, ?_⟩
            have il : i < x.cps.toList.length := (List.getElem?_eq_some_iff.mp ec).1
            refine ⟨_, eL, ?_, bs ++ [decide (c ∈ sg.cps.toList)], ?_, ?_, fun b o e => ?_⟩
            · rw [List.length_map, eb, List.length_map, List.length_take]
              refine Nat.lt_of_le_of_lt (show min i x.cps.toList.length ≤ 50000 from ?_) (by decide)
              rw [← len_cps]
              omega
            · rw [List.take_succ, ec, List.map_append, eb]
              rfl
            · rw [upd_same, List.map_append]
              rfl
            · rw [upd_ne (ne_of_none e nL)]
              exact sm _ _ e
          · rintro He ⟨bs, eb, eL, sm⟩
            refine ⟨L, _, rfl, SqL.of eL, ?_⟩
            have w := q He sm
            rw [eo, c1, c2] at w
            rw [eb, List.take_of_length_le (by rw [Array.length_toList]; exact Nat.le_refl _), List.all_map]
            exact w
    | _ => exact iteT (qf rfl)
def sk (x : Str) : Bool := decide (V.str x = V.str (Txt.stripChars x " "))
def db (x : Str) : Bool := !(Builtin.Str.occurrences x "  " 0 x.length 1).isEmpty
def ntx (d : PyData) : Bool := match d with
  | .str x => ofT (.str x) signs 1 40 && (sk x && !db x)
  | _ => false
def nmD (d : PyData) : Bool := match d with
  | .tuple [a, b] => ofT a small 2 3 && ntx b
  | _ => false
def Tx (d : PyData) : Prop := ∀ x, d = .str x → x.length ≤ 50000
def T2 (d : PyData) : Prop := ∀ ds, d = .tuple ds → ∀ e ∈ ds, Tx e
theorem ofT_str {d : PyData} {sg : Str} {a b : Int} (h : ofT d sg a b = true) : ∃ x, d = .str x := by
  cases d with
  | str x => exact ⟨x, rfl⟩
  | _ => cases h
theorem ntx_no {d : PyData} (h : ofT d signs 1 40 = false) : ntx d = false := by
  cases d with
  | str x =>
    show (ofT (.str x) signs 1 40 && (sk x && !db x)) = false
    rw [h]
    rfl
  | _ => rfl
theorem len3 {α : Type} {a b c : α} {r : List α} (e : ¬(!decide (V.int (((a :: b :: c :: r).length : Nat) : Int) = V.int 2)) = true) : (0 : Nat) ≠ 0 := fun _ => by
  have n : ¬ V.int (((a :: b :: c :: r).length : Nat) : Int) = V.int 2 := fun z => by
    have := V.int.inj z
    simp at this
    omega
  rw [decide_eq_false n] at e
  exact e rfl
def spSmall (K : PySem.W.Frag) : Sp := fun vs H Q _ => ∃ (v : V) (d : PyData) (a b : Int), vs = [v, .int a, .int b] ∧ Dz K H v d ∧ (∀ x, d = .str x → x.length ≤ 50000) ∧ ∀ H', L2.Same H H' → Q (.bl (ofT d small a b)) H'
def spTongueP (K : PySem.W.Frag) : Sp := fun vs H Q _ => ∃ (v : V) (d : PyData), vs = [v] ∧ Dz K H v d ∧ (∀ x, d = .str x → x.length ≤ 50000) ∧ ∀ H', L2.Same H H' → Q (.bl (ofT d small 2 3)) H'
def spNT (K : PySem.W.Frag) : Sp := fun vs H Q _ => ∃ (v : V) (d : PyData), vs = [v] ∧ Dz K H v d ∧ (∀ x, d = .str x → x.length ≤ 50000) ∧ ∀ H', L2.Same H H' → Q (.bl (ntx d)) H'
def spIsName (K : PySem.W.Frag) : Sp := fun vs H Q _ => ∃ (v : V) (d : PyData), vs = [v] ∧ Dz K H v d ∧ T2 d ∧ ∀ H', L2.Same H H' → Q (.bl (nmD d)) H'
theorem ok_smallt {f : Addr} {fd : FuncData} {e : Ex} (D : Df K mg "is_small_text" ["thing", "least", "most"] sIsSmallText f fd) (T : Txt K mg C CL e) (cO : Ca P w K mg base 1 "is_text_of" ["thing", "signs", "least", "most"] (spTextOf K)) : FnOk P w K mg base CX0 2 f fd ["thing", "least", "most"] (spSmall K) := by
  obtain ⟨_, gKEY_PARTS⟩ := T.cKEY_PARTS
  obtain ⟨_, gLONGEST_WORD⟩ := T.cLONGEST_WORD
  obtain ⟨_, gLONGEST_CODE⟩ := T.cLONGEST_CODE
  obtain ⟨_, gMOST_PLAYERS⟩ := T.cMOST_PLAYERS
  obtain ⟨_, gLAST_YEAR⟩ := T.cLAST_YEAR
  obtain ⟨_, gMONTHS⟩ := T.cMONTHS
  obtain ⟨_, gFEBRUARY⟩ := T.cFEBRUARY
  obtain ⟨_, gMOST_SECONDS⟩ := T.cMOST_SECONDS
  obtain ⟨_, gSHORTEST_TONGUE⟩ := T.cSHORTEST_TONGUE
  obtain ⟨_, gLONGEST_TONGUE⟩ := T.cLONGEST_TONGUE
  obtain ⟨_, gLONGEST_TEXT⟩ := T.cLONGEST_TEXT
  obtain ⟨_, gMOST_FIGURES⟩ := T.cMOST_FIGURES
  obtain ⟨_, gDAY_PARTS⟩ := T.cDAY_PARTS
  obtain ⟨_, gYEAR_FIGURES⟩ := T.cYEAR_FIGURES
  obtain ⟨_, gSMALL_LETTERS⟩ := T.cSMALL_LETTERS
  obtain ⟨_, gTEXT_SIGNS⟩ := T.cTEXT_SIGNS
  obtain ⟨_, gFIGURES⟩ := T.cFIGURES
  obtain ⟨_, gCODE_SIGNS⟩ := T.cCODE_SIGNS
  refine D.fn.ok scIsSmallText (fun vs H Q E h => ?_) (fun cdv A outer s H vs Q E hr h => ?_)
  · obtain ⟨v, d, a, b, rfl, hz, sz, q⟩ := h
    rfl
  · obtain ⟨v, d, a, b, rfl, hz, sz, q⟩ := h
    refine ⟨_, (pss_one (ps_ret (pe_ca cO hr (by decide) (by rfl) (pa_cons (pv 0) (pa_cons (pe_glob (v := .str small) (by rfl) gSMALL_LETTERS ⟨_, rfl⟩) (pa_cons (pv 1) (pa_cons (pv 2) pa_nil))))))), ?_⟩
    exact ⟨_, rfl, _, rfl, _, rfl, v, d, small, a, b, rfl, hz, sz, q⟩
theorem ok_tonguep {f : Addr} {fd : FuncData} {e : Ex} (D : Df K mg "is_tongue" ["thing"] sIsTongue f fd) (T : Txt K mg C CL e) (cSm : Ca P w K mg base 2 "is_small_text" ["thing", "least", "most"] (spSmall K)) : FnOk P w K mg base CX0 3 f fd ["thing"] (spTongueP K) := by
  obtain ⟨_, gKEY_PARTS⟩ := T.cKEY_PARTS
  obtain ⟨_, gLONGEST_WORD⟩ := T.cLONGEST_WORD
  obtain ⟨_, gLONGEST_CODE⟩ := T.cLONGEST_CODE
  obtain ⟨_, gMOST_PLAYERS⟩ := T.cMOST_PLAYERS
  obtain ⟨_, gLAST_YEAR⟩ := T.cLAST_YEAR
  obtain ⟨_, gMONTHS⟩ := T.cMONTHS
  obtain ⟨_, gFEBRUARY⟩ := T.cFEBRUARY
  obtain ⟨_, gMOST_SECONDS⟩ := T.cMOST_SECONDS
  obtain ⟨_, gSHORTEST_TONGUE⟩ := T.cSHORTEST_TONGUE
  obtain ⟨_, gLONGEST_TONGUE⟩ := T.cLONGEST_TONGUE
  obtain ⟨_, gLONGEST_TEXT⟩ := T.cLONGEST_TEXT
  obtain ⟨_, gMOST_FIGURES⟩ := T.cMOST_FIGURES
  obtain ⟨_, gDAY_PARTS⟩ := T.cDAY_PARTS
  obtain ⟨_, gYEAR_FIGURES⟩ := T.cYEAR_FIGURES
  obtain ⟨_, gSMALL_LETTERS⟩ := T.cSMALL_LETTERS
  obtain ⟨_, gTEXT_SIGNS⟩ := T.cTEXT_SIGNS
  obtain ⟨_, gFIGURES⟩ := T.cFIGURES
  obtain ⟨_, gCODE_SIGNS⟩ := T.cCODE_SIGNS
  refine D.fn.ok scIsTongue (fun vs H Q E h => ?_) (fun cdv A outer s H vs Q E hr h => ?_)
  · obtain ⟨v, d, rfl, hz, sz, q⟩ := h
    rfl
  · obtain ⟨v, d, rfl, hz, sz, q⟩ := h
    refine ⟨_, (pss_one (ps_ret (pe_ca cSm hr (by decide) (by rfl) (pa_cons (pv 0) (pa_cons (pe_glob (v := .int 2) (by rfl) gSHORTEST_TONGUE ⟨_, rfl⟩) (pa_cons (pe_glob (v := .int 3) (by rfl) gLONGEST_TONGUE ⟨_, rfl⟩) pa_nil)))))), ?_⟩
    exact ⟨_, rfl, v, d, 2, 3, rfl, hz, sz, q⟩
theorem ok_nmt {f : Addr} {fd : FuncData} {e : Ex} (D : Df K mg "is_name_text" ["thing"] sIsNameText f fd) (T : Txt K mg C CL e) (cO : Ca P w K mg base 1 "is_text_of" ["thing", "signs", "least", "most"] (spTextOf K)) : FnOk P w K mg base CX0 2 f fd ["thing"] (spNT K) := by
  obtain ⟨_, gKEY_PARTS⟩ := T.cKEY_PARTS
  obtain ⟨_, gLONGEST_WORD⟩ := T.cLONGEST_WORD
  obtain ⟨_, gLONGEST_CODE⟩ := T.cLONGEST_CODE
  obtain ⟨_, gMOST_PLAYERS⟩ := T.cMOST_PLAYERS
  obtain ⟨_, gLAST_YEAR⟩ := T.cLAST_YEAR
  obtain ⟨_, gMONTHS⟩ := T.cMONTHS
  obtain ⟨_, gFEBRUARY⟩ := T.cFEBRUARY
  obtain ⟨_, gMOST_SECONDS⟩ := T.cMOST_SECONDS
  obtain ⟨_, gSHORTEST_TONGUE⟩ := T.cSHORTEST_TONGUE
  obtain ⟨_, gLONGEST_TONGUE⟩ := T.cLONGEST_TONGUE
  obtain ⟨_, gLONGEST_TEXT⟩ := T.cLONGEST_TEXT
  obtain ⟨_, gMOST_FIGURES⟩ := T.cMOST_FIGURES
  obtain ⟨_, gDAY_PARTS⟩ := T.cDAY_PARTS
  obtain ⟨_, gYEAR_FIGURES⟩ := T.cYEAR_FIGURES
  obtain ⟨_, gSMALL_LETTERS⟩ := T.cSMALL_LETTERS
  obtain ⟨_, gTEXT_SIGNS⟩ := T.cTEXT_SIGNS
  obtain ⟨_, gFIGURES⟩ := T.cFIGURES
  obtain ⟨_, gCODE_SIGNS⟩ := T.cCODE_SIGNS
  refine D.fn.ok scIsNameText (fun vs H Q E h => ?_) (fun cdv A outer s H vs Q E hr h => ?_)
  · obtain ⟨v, d, rfl, hz, sz, q⟩ := h
    rfl
  · obtain ⟨v, d, rfl, hz, sz, q⟩ := h
    refine ⟨_, (pss_cons (ps_if (pt_not (pt_val (pe_ca cO hr (by decide) (by rfl) (pa_cons (pv 0) (pa_cons (pe_glob (v := .str signs) (by rfl) gTEXT_SIGNS ⟨_, rfl⟩) (pa_cons pe_int (pa_cons (pe_glob (v := .int 40) (by rfl) gLONGEST_TEXT ⟨_, rfl⟩) pa_nil))))))) (pss_one (ps_ret pe_bl)) pss_nil)
      (pss_one (ps_ret (pe_and (pe_cmpR op_eq (pv 0) (pe_m1 F.slot_str_strip F.type_str_strip mt_stripChars (pv 0) pe_str) (nomark _)) (pe_one (pe_cmpR op_notin_str pe_str (pv 0) (by rfl))))))), ?_⟩
    refine ⟨_, rfl, v, d, signs, 1, 40, rfl, hz, sz, fun H1 s1 => ⟨_, rfl, ?_⟩⟩
    have w := q H1 s1
    cases c : ofT d signs 1 40 with
    | false =>
      rw [ntx_no c] at w
      exact iteT w
    | true =>
      obtain ⟨x, rfl⟩ := ofT_str c
      obtain ⟨x', rfl⟩ : ∃ x', v = .str x' := by cases hz; exact ⟨_, rfl⟩
      have ex : x' = x := by cases hz; rfl
      subst ex
      have fit : x'.length ≤ sizeLine := Nat.le_trans (sz x' rfl) (by decide)
      have e : ntx (.str x') = (sk x' && !db x') := by
        show (ofT (.str x') signs 1 40 && (sk x' && !db x')) = _
        rw [c]
        rfl
      rw [e] at w
      refine iteF ⟨_, rfl, _, rfl, ⟨_, rfl⟩, x', " ", rfl, rfl, fit, rfl, _, rfl, ?_⟩
      refine ite2 (fun c2 => ?_) (fun c2 => ?_)
      · have cs : sk x' = true := c2
        rw [cs] at w
        exact ⟨_, rfl, "  ", x', rfl, rfl, w⟩
      · have cs : sk x' = false := Bool.eq_false_iff.mpr c2
        rw [cs] at w
        exact w
theorem ok_name {f : Addr} {fd : FuncData} {e : Ex} (D : Df K mg "is_name" ["thing"] sIsName f fd) (T : Txt K mg C CL e) (cTo : Ca P w K mg base 3 "is_tongue" ["thing"] (spTongueP K)) (cNt : Ca P w K mg base 2 "is_name_text" ["thing"] (spNT K)) : FnOk P w K mg base CX0 4 f fd ["thing"] (spIsName K) := by
  refine D.fn.ok scIsName (fun vs H Q E h => ?_) (fun cdv A outer s H vs Q E hr h => ?_)
  · obtain ⟨v, d, rfl, hz, t2, q⟩ := h
    rfl
  · obtain ⟨v, d, rfl, hz, t2, q⟩ := h
    refine ⟨_, (pss_cons (ps_if (PW.pt (pw_or (pt_not (pt_val (pe_callB call_isi (by rfl) T.isi (by decide +kernel) (pa_cons (pv 0) (pa_cons (pe_bltn (v := .ty "tuple") (by rfl) T.tuple (by decide +kernel) rfl) pa_nil))))) (pw_or1 (pt_cmpR op_ne (pe_callB call_len_seq (by rfl) T.len PySem.boot_len (pa_cons (pv 0) pa_nil)) pe_int (nomark _))))) (pss_one (ps_ret pe_bl)) pss_nil)
      (pss_one (ps_ret (pe_and (pe_ca cTo hr (by decide) (by rfl) (pa_cons (pe_ix ix_tup (pv 0) pe_int (fun _ _ => rfl)) pa_nil)) (pe_one (pe_ca cNt hr (by decide) (by rfl) (pa_cons (pe_ix ix_tup (pv 0) pe_int (fun _ _ => rfl)) pa_nil))))))), ?_⟩
    refine ⟨_, rfl, _, _, _, _, isTup d, rfl, .ty _, hz.ty, z_tup d, _, rfl, ?_⟩
    have qf : nmD d = false → Q (.bl false) H := fun e => by
      have w := q H (Same.refl H)
      rw [e] at w
      exact w
    cases hz with
    | @tup t xs ds et ra =>
      refine iteF ⟨_, rfl, t, xs, rfl, .inr (SqT.of et), rfl, _, rfl, ?_⟩
      match xs, ds, ra with
      | [], _, .nil => exact iteT (qf rfl)
      | [_], _, .cons _ .nil => exact iteT (qf rfl)
      | _ :: _ :: _ :: r, _, .cons _ (.cons _ (.cons _ _)) => exact ite2 (fun _ => qf rfl) (fun e => absurd rfl (len3 e))
      | [va, vb], _, .cons (d := a) ha (.cons (d := b) hb .nil) =>
        obtain ⟨ta, tb⟩ : Tx a ∧ Tx b := ⟨t2 _ rfl a (by simp), t2 _ rfl b (by simp)⟩
        refine iteF ⟨_, rfl, t, _, 0, va, rfl, rfl, SqT.of et, atI_nat (j := 0) rfl, va, a, rfl, ha, fun x e => ta x e, fun H1 s1 => ⟨_, rfl, ?_⟩⟩
        have w := fun H' sm => q H' sm
        cases c : ofT a small 2 3 with
        | false =>
          have w := q H1 s1
          rw [show nmD (.tuple [a, b]) = false by show (ofT a small 2 3 && ntx b) = false; rw [c]; rfl] at w
          exact iteF w
        | true =>
          refine iteT ⟨_, rfl, t, _, 1, vb, rfl, rfl, SqT.of (s1 _ _ et), atI_nat (j := 1) rfl, vb, b, rfl, hb.same s1, fun x e => tb x e, fun H2 s2 => ?_⟩
          have w := q H2 (s1.trans s2)
          rw [show nmD (.tuple [a, b]) = ntx b by show (ofT a small 2 3 && ntx b) = _; rw [c]; rfl] at w
          exact w
    | _ => exact iteT (qf rfl)
end
end K69
set_option Elab.async false
set_option linter.all false
set_option maxRecDepth 100000
set_option maxHeartbeats 4000000
set_option pp.maxSteps 400
set_option pp.deepTerms false
namespace K69
open PySem PySem.Spec PyProof.Rows L2
open Xk Az Xtx
section
variable {P : Program} {w : World} {K : PySem.W.Frag} {mg : Str → Option Value} {base : Heap} {C CL : Addr}
theorem oV_dz {H : Hp} : ∀ m : Option Int, Dz K H (oV m) (oD m)
  | none => .non
  | some i => .int i
theorem oV_non (m : Option Int) : oV m = .non ↔ m = none := by cases m <;> simp [oV]
theorem good_iff {y : Int} {m d : Option Int} : goodV (.int y) (oV m) (oV d) = true ↔ Good y m d := by
  unfold Good goodV
  cases m with
  | none => cases d <;> simp [wiV, oV, and_assoc]
  | some i => cases d <;> simp [wiV, oV, and_assoc]
theorem put3 (y : Int) (m d : Option Int) : putF "day" (oV d) (putF "month" (oV m) (putF "year" (.int y) [])) = dayF y m d := by
  show (if ("year" : Str) = "day" then _ else _) = _
  rw [if_neg (by decide +kernel)]
  rfl
def spInit (C : Addr) : Sp := fun vs H Q _ => ∃ (x dx : Addr) (y : Int) (m d : Option Int), vs = [.ref x, .int y, oV m, oV d] ∧ Good y m d ∧ H x = some (.ins C dx []) ∧
  ∀ H' : Hp, (∀ b o, H b = some o → b ≠ x → H' b = some o) → DayAt C H' x y m d → Q .non H'
def spLen (CL : Addr) : Sp := fun vs H Q _ => ∃ (x dx : Addr) (i : Int), vs = [.ref x, .int i] ∧ H x = some (.ins CL dx []) ∧ 0 ≤ i ∧ i ≤ 359999 ∧
  ∀ H' : Hp, (∀ b o, H b = some o → b ≠ x → H' b = some o) → LenAt CL H' x i → Q .non H'
theorem ok_init {f : Addr} {fd : FuncData} {e : Ex} (F : FunD K "__init__" "Day.__init__" (defArgs sDayInit) (defBody sDayInit) (defScope sDayInit) [.non, .non] [] f fd) (T : Txt K mg C CL e) (cM : Ca P w K mg base 3 "makes_day" ["year", "month", "day"] (spMakes K)) : FnOk P w K mg base CX0 4 f fd ["self", "year", "month", "day"] (spInit C) := by
  refine F.ok scDayInit (fun vs H Q E h => ?_) (fun cdv A outer s H vs Q E hr h => ?_)
  · obtain ⟨x, dx, y, m, d, rfl, g, hx, q⟩ := h
    rfl
  · obtain ⟨x, dx, y, m, d, rfl, g, hx, q⟩ := h
    refine ⟨_, (pss_cons (ps_if (pt_not (pt_val (pe_ca cM hr (by decide) (by rfl) (pa_cons (pv 1) (pa_cons (pv 2) (pa_cons (pv 3) pa_nil)))))) (pss_one ps_no) pss_nil)
      (pss_cons (ps_fld (pv 0) (pv 1) rfl)
      (pss_cons (ps_fld (pv 0) (pv 2) rfl)
      (pss_one (ps_fld (pv 0) (pv 3) rfl))))), ?_⟩
    refine ⟨_, rfl, _, rfl, _, rfl, .int y, oV m, oV d, .int y, oD m, oD d, rfl, .int y, oV_dz m, oV_dz d, _, rfl, ?_⟩
    rw [good_iff.mpr g]
    refine iteF ⟨_, rfl, _, rfl, x, C, dx, [], rfl, hx, T.cl, T.nY, (by decide), ?_⟩
    refine ⟨_, rfl, _, rfl, x, C, dx, _, rfl, upd_same, T.cl, T.nM, (by show 1 < 1000; decide), ?_⟩
    refine ⟨_, rfl, _, rfl, x, C, dx, _, rfl, upd_same, T.cl, T.nD, ?_, ?_⟩
    · show (putF "month" (oV m) [(("year" : Str), V.int y)]).length < 1000
      unfold putF
      split <;> simp [putF]
    · rw [upd_upd, upd_upd]
      refine q _ (fun b o e n => by rw [upd_ne n]; exact e) ⟨dx, ?_⟩
      rw [upd_same]
      exact congrArg (fun z => some (HO.ins C dx z)) (put3 y m d)
theorem init_binds {f : Addr} {fd : FuncData} (F : FunD K "__init__" "Day.__init__" (defArgs sDayInit) (defBody sDayInit) (defScope sDayInit) [.non, .non] [] f fd) : Binds K fd ["self", "year", "month", "day"] [] := by
  obtain ⟨ds, r, b⟩ := F.binds1 (ps := ["self", "year", "month", "day"]) 4 2 (by simp) rfl fun T kV doc pm an cdv ct us its h1 h2 => by
    match us, its, h1, h2 with
    | [_, _, _, _], [_, _], _, _ => exact ⟨_, rfl, rfl⟩
  cases r
  exact b
theorem ok_len {f : Addr} {fd : FuncData} {e : Ex} (F : Fun K "__init__" "Length.__init__" sLengthInit f fd) (T : Txt K mg C CL e) (cI : Ca P w K mg base 2 "is_within" ["thing", "least", "most"] (spWithin K)) : FnOk P w K mg base CX0 3 f fd ["self", "seconds"] (spLen CL) := by
  obtain ⟨_, gKEY_PARTS⟩ := T.cKEY_PARTS
  obtain ⟨_, gLONGEST_WORD⟩ := T.cLONGEST_WORD
  obtain ⟨_, gLONGEST_CODE⟩ := T.cLONGEST_CODE
  obtain ⟨_, gMOST_PLAYERS⟩ := T.cMOST_PLAYERS
  obtain ⟨_, gLAST_YEAR⟩ := T.cLAST_YEAR
  obtain ⟨_, gMONTHS⟩ := T.cMONTHS
  obtain ⟨_, gFEBRUARY⟩ := T.cFEBRUARY
  obtain ⟨_, gMOST_SECONDS⟩ := T.cMOST_SECONDS
  obtain ⟨_, gSHORTEST_TONGUE⟩ := T.cSHORTEST_TONGUE
  obtain ⟨_, gLONGEST_TONGUE⟩ := T.cLONGEST_TONGUE
  obtain ⟨_, gLONGEST_TEXT⟩ := T.cLONGEST_TEXT
  obtain ⟨_, gMOST_FIGURES⟩ := T.cMOST_FIGURES
  obtain ⟨_, gDAY_PARTS⟩ := T.cDAY_PARTS
  obtain ⟨_, gYEAR_FIGURES⟩ := T.cYEAR_FIGURES
  obtain ⟨_, gSMALL_LETTERS⟩ := T.cSMALL_LETTERS
  obtain ⟨_, gTEXT_SIGNS⟩ := T.cTEXT_SIGNS
  obtain ⟨_, gFIGURES⟩ := T.cFIGURES
  obtain ⟨_, gCODE_SIGNS⟩ := T.cCODE_SIGNS
  refine F.ok scLengthInit (fun vs H Q E h => ?_) (fun cdv A outer s H vs Q E hr h => ?_)
  · obtain ⟨x, dx, i, rfl, hx, h0, h1, q⟩ := h
    rfl
  · obtain ⟨x, dx, i, rfl, hx, h0, h1, q⟩ := h
    refine ⟨_, (pss_cons (ps_if (pt_not (pt_val (pe_ca cI hr (by decide) (by rfl) (pa_cons (pv 1) (pa_cons pe_int (pa_cons (pe_glob (v := .int 359999) (by rfl) gMOST_SECONDS ⟨_, rfl⟩) pa_nil)))))) (pss_one ps_no) pss_nil)
      (pss_one (ps_fld (pv 0) (pv 1) rfl))), ?_⟩
    refine ⟨_, rfl, .int i, .int i, 0, 359999, rfl, .int i, _, rfl, ?_⟩
    have c : wiV (.int i) 0 359999 = true := by simp [wiV, h0, h1]
    rw [c]
    refine iteF ⟨_, rfl, _, rfl, x, CL, dx, [], rfl, hx, T.clL, T.nS, (by decide), ?_⟩
    exact q _ (fun b o e n => by rw [upd_ne n]; exact e) ⟨dx, upd_same⟩
def addP (acc : Str) : Option Int → Str
  | none => acc
  | some i => acc ++ "-" ++ zpad 2 i
def dayText (y : Int) (m d : Option Int) : Str := addP (addP (zpad 4 y) m) d
def toldS : Int → Option Int → Option Int → List Str
  | y, none, _ => [Str.ofString (toString y)]
  | y, some m, none => [Str.ofString (toString y), Str.ofString (toString m)]
  | y, some m, some d => [Str.ofString (toString y), Str.ofString (toString m), Str.ofString (toString d)]
def dayRepr (y : Int) (m d : Option Int) : Str := "Day(" ++ Str.join ", " (toldS y m d) ++ ")"
def spStrD (C : Addr) : Sp := fun vs H Q _ => ∃ (a : Addr) (y : Int) (m d : Option Int), vs = [.ref a] ∧ DayAt C H a y m d ∧ Good y m d ∧ Q (.str (dayText y m d)) H
def spReprD (C : Addr) : Sp := fun vs H Q _ => ∃ (a : Addr) (y : Int) (m d : Option Int), vs = [.ref a] ∧ DayAt C H a y m d ∧ Good y m d ∧ Q (.str (dayRepr y m d)) H
def TinyO : Option Int → Prop
  | none => True
  | some i => Tiny i
theorem good_tiny {y : Int} {m d : Option Int} (g : Good y m d) : Tiny y ∧ TinyO m ∧ TinyO d := by
  obtain ⟨g1, g2, g3⟩ := g
  refine ⟨⟨by omega, by omega⟩, ?_⟩
  cases m with
  | none =>
    have : d = none := g3
    subst this
    exact ⟨trivial, trivial⟩
  | some i =>
    obtain ⟨g4, g5, g6⟩ := g3
    have l := lastDay_ge y i
    refine ⟨⟨by omega, by omega⟩, ?_⟩
    cases d with
    | none => trivial
    | some j => exact ⟨by have := g6.1; omega, by have := g6.2; omega⟩
theorem int_small {i : Int} (h : Tiny i) : i.natAbs.log2 < 1920 := by
  have h1 : i.natAbs < 2 ^ 14 := by
    obtain ⟨a, b⟩ := h
    omega
  exact Nat.lt_of_lt_of_le (PySem.Flt.log2_lt_of (by decide) h1) (by decide)
theorem int_short {i : Int} (h : Tiny i) : (PyData.shown (.int i)).length ≤ 4 := by
  simp only [PyData.shown]
  exact toString_length_le h.1 (by decide) (by have := h.2; omega)
theorem emp : Str.empty.length = 0 := rfl
theorem dsh : ("-" : Str).length = 1 := by decide +kernel
theorem ok_strD {f : Addr} {fd : FuncData} (F : Fun K "__str__" "Day.__str__" sDayStr f fd) (T : Txt K mg C CL e) (nd : base.NoDigits) : FnOk P w K mg base CX0 1 f fd ["self"] (spStrD C) := by
  refine F.ok scDayStr (fun vs H Q E h => ?_) (fun cdv A outer s H vs Q E hr h => ?_)
  · obtain ⟨a, y, m, d, rfl, _⟩ := h
    rfl
  · obtain ⟨a, y, m, d, rfl, ⟨dx, ha⟩, g, q⟩ := h
    obtain ⟨ty, tm, td⟩ := good_tiny g
    refine ⟨_, pss_cons (ps_if (pt_cmpR op_isN (pe_fld (pv 0) rfl) pe_non (nomark _)) (pss_one (ps_ret (pe_joined1 (pe_fmtS (spec := "04d") (W := 4) nd (by decide +kernel) (by decide +kernel) (by decide +kernel) (by decide +kernel) (pe_fld (pv 0) rfl) (pe_joined1 pe_str))))) pss_nil)
      (pss_cons (ps_if (pt_cmpR op_isN (pe_fld (pv 0) rfl) pe_non (nomark _)) (pss_one (ps_ret (pe_joined (.cons (pe_fmtS (spec := "04d") (W := 4) nd (by decide +kernel) (by decide +kernel) (by decide +kernel) (by decide +kernel) (pe_fld (pv 0) rfl) (pe_joined1 pe_str))
          (.cons pe_str (.cons (pe_fmtS (spec := "02d") (W := 2) nd (by decide +kernel) (by decide +kernel) (by decide +kernel) (by decide +kernel) (pe_fld (pv 0) rfl) (pe_joined1 pe_str)) .nil)))))) pss_nil)
      (pss_one (ps_ret (pe_joined (.cons (pe_fmtS (spec := "04d") (W := 4) nd (by decide +kernel) (by decide +kernel) (by decide +kernel) (by decide +kernel) (pe_fld (pv 0) rfl) (pe_joined1 pe_str))
          (.cons pe_str (.cons (pe_fmtS (spec := "02d") (W := 2) nd (by decide +kernel) (by decide +kernel) (by decide +kernel) (by decide +kernel) (pe_fld (pv 0) rfl) (pe_joined1 pe_str))
          (.cons pe_str (.cons (pe_fmtS (spec := "02d") (W := 2) nd (by decide +kernel) (by decide +kernel) (by decide +kernel) (by decide +kernel) (pe_fld (pv 0) rfl) (pe_joined1 pe_str)) .nil))))))))), ?_⟩
    have l4 := zpad_len (W := 4) (by decide) ty
    cases m with
    | none =>
      have ed : d = none := g.2.2
      subst ed
      refine ⟨_, rfl, a, C, dx, _, _, rfl, ha, T.cl, T.nM, f_m _ _ _, rfl, _, rfl, iteT ?_⟩
      exact ⟨_, rfl, a, C, dx, _, _, rfl, ha, T.cl, T.nY, f_y _ _ _, y, rfl, ty, q⟩
    | some i =>
      have l2 := zpad_len (W := 2) (i := i) (by decide) tm
      refine ⟨_, rfl, a, C, dx, _, _, rfl, ha, T.cl, T.nM, f_m _ _ _, rfl, _, rfl, iteF ?_⟩
      refine ⟨_, rfl, a, C, dx, _, _, rfl, ha, T.cl, T.nD, f_d _ _ _, rfl, _, rfl, ?_⟩
      cases d with
      | none =>
        refine iteT ⟨_, rfl, a, C, dx, _, _, rfl, ha, T.cl, T.nY, f_y _ _ _, y, rfl, ty, _, rfl, fitN ?_, _, rfl, fitN ?_, _, rfl, a, C, dx, _, _, rfl, ha, T.cl, T.nM, f_m _ _ _, i, rfl, tm, _, rfl, fitN ?_, ?_⟩
        · rw [strLen_append, emp]; omega
        · rw [strLen_append, strLen_append, emp, dsh]; omega
        · rw [strLen_append, strLen_append, strLen_append, emp, dsh]; omega
        · show Q (V.str (Str.empty ++ zpad 4 y ++ "-" ++ zpad 2 i)) H
          rw [Str.empty_append]
          exact q
      | some j =>
        have l3 := zpad_len (W := 2) (i := j) (by decide) td
        refine iteF ⟨_, rfl, a, C, dx, _, _, rfl, ha, T.cl, T.nY, f_y _ _ _, y, rfl, ty, _, rfl, fitN ?_, _, rfl, fitN ?_, _, rfl, a, C, dx, _, _, rfl, ha, T.cl, T.nM, f_m _ _ _, i, rfl, tm, _, rfl, fitN ?_, _, rfl, fitN ?_, _, rfl, a, C, dx, _, _, rfl, ha, T.cl, T.nD, f_d _ _ _, j, rfl, td, _, rfl, fitN ?_, ?_⟩
        · rw [strLen_append, emp]; omega
        · rw [strLen_append, strLen_append, emp, dsh]; omega
        · rw [strLen_append, strLen_append, strLen_append, emp, dsh]; omega
        · rw [strLen_append, strLen_append, strLen_append, strLen_append, emp, dsh]; omega
        · rw [strLen_append, strLen_append, strLen_append, strLen_append, strLen_append, emp, dsh]; omega
        · show Q (V.str (Str.empty ++ zpad 4 y ++ "-" ++ zpad 2 i ++ "-" ++ zpad 2 j)) H
          rw [Str.empty_append]
          exact q
theorem dPar : ("Day(" : Str).length = 4 := by decide +kernel
theorem dCom : (", " : Str).length = 2 := by decide +kernel
theorem dEnd : (")" : Str).length = 1 := by decide +kernel
theorem txt_len {i : Int} (h : Tiny i) : (Str.ofString (toString i)).length ≤ 4 := by
  rw [len_text h.1]
  exact nDig_le h
theorem ok_reprD {f : Addr} {fd : FuncData} (F : Fun K "__repr__" "Day.__repr__" sDayRepr f fd) (T : Txt K mg C CL e) : FnOk P w K mg base CX0 1 f fd ["self"] (spReprD C) := by
  refine F.ok scDayRepr (fun vs H Q E h => ?_) (fun cdv A outer s H vs Q E hr h => ?_)
  · obtain ⟨a, y, m, d, rfl, _⟩ := h
    rfl
  · obtain ⟨a, y, m, d, rfl, ⟨dx, ha⟩, g, q⟩ := h
    obtain ⟨ty, tm, td⟩ := good_tiny g
    refine ⟨_, pss_cons (ps_if (pt_cmpR op_isN (pe_fld (pv 0) rfl) pe_non (nomark _)) (pss_one (ps_ret (pe_joined (.cons pe_str (.cons (pe_fmt (pe_fld (pv 0) rfl)) (.cons pe_str .nil)))))) pss_nil)
      (pss_cons (ps_if (pt_cmpR op_isN (pe_fld (pv 0) rfl) pe_non (nomark _)) (pss_one (ps_ret (pe_joined (.cons pe_str (.cons (pe_fmt (pe_fld (pv 0) rfl)) (.cons pe_str (.cons (pe_fmt (pe_fld (pv 0) rfl)) (.cons pe_str .nil)))))))) pss_nil)
      (pss_one (ps_ret (pe_joined (.cons pe_str (.cons (pe_fmt (pe_fld (pv 0) rfl)) (.cons pe_str (.cons (pe_fmt (pe_fld (pv 0) rfl)) (.cons pe_str (.cons (pe_fmt (pe_fld (pv 0) rfl)) (.cons pe_str .nil))))))))))), ?_⟩
    have ly := txt_len ty
    cases m with
    | none =>
      have ed : d = none := g.2.2
      subst ed
      refine ⟨_, rfl, a, C, dx, _, _, rfl, ha, T.cl, T.nM, f_m _ _ _, rfl, _, rfl, iteT ?_⟩
      refine ⟨_, rfl, fitN ?_, _, rfl, a, C, dx, _, _, rfl, ha, T.cl, T.nY, f_y _ _ _, .inr ⟨y, rfl, int_small ty, _, rfl, fitN ?_, _, rfl, fitN ?_, ?_⟩⟩
      · rw [strLen_append, emp, dPar]; omega
      · rw [strLen_append, strLen_append, emp, dPar]; omega
      · rw [strLen_append, strLen_append, strLen_append, emp, dPar, dEnd]; omega
      · show Q (V.str (Str.empty ++ "Day(" ++ Str.ofString (toString y) ++ ")")) H
        rw [Str.empty_append]
        exact q
    | some i =>
      have li := txt_len (i := i) tm
      refine ⟨_, rfl, a, C, dx, _, _, rfl, ha, T.cl, T.nM, f_m _ _ _, rfl, _, rfl, iteF ?_⟩
      refine ⟨_, rfl, a, C, dx, _, _, rfl, ha, T.cl, T.nD, f_d _ _ _, rfl, _, rfl, ?_⟩
      cases d with
      | none =>
        refine iteT ⟨_, rfl, fitN ?_, _, rfl, a, C, dx, _, _, rfl, ha, T.cl, T.nY, f_y _ _ _, .inr ⟨y, rfl, int_small ty, _, rfl, fitN ?_, _, rfl, fitN ?_, _, rfl, a, C, dx, _, _, rfl, ha, T.cl, T.nM, f_m _ _ _, .inr ⟨i, rfl, int_small tm, _, rfl, fitN ?_, _, rfl, fitN ?_, ?_⟩⟩⟩
        · rw [strLen_append, emp, dPar]; omega
        · rw [strLen_append, strLen_append, emp, dPar]; omega
        · rw [strLen_append, strLen_append, strLen_append, emp, dPar, dCom]; omega
        · rw [strLen_append, strLen_append, strLen_append, strLen_append, emp, dPar, dCom]; omega
        · rw [strLen_append, strLen_append, strLen_append, strLen_append, strLen_append, emp, dPar, dCom, dEnd]; omega
        · show Q (V.str (Str.empty ++ "Day(" ++ Str.ofString (toString y) ++ ", " ++ Str.ofString (toString i) ++ ")")) H
          have e : Str.empty ++ "Day(" ++ Str.ofString (toString y) ++ ", " ++ Str.ofString (toString i) ++ ")" = dayRepr y (some i) none := by
            show _ = "Day(" ++ (Str.ofString (toString y) ++ ", " ++ Str.ofString (toString i)) ++ ")"
            simp only [Str.append_assoc, Str.empty_append]
          rw [e]
          exact q
      | some j =>
        have lj := txt_len (i := j) td
        refine iteF ⟨_, rfl, fitN ?_, _, rfl, a, C, dx, _, _, rfl, ha, T.cl, T.nY, f_y _ _ _, .inr ⟨y, rfl, int_small ty, _, rfl, fitN ?_, _, rfl, fitN ?_, _, rfl, a, C, dx, _, _, rfl, ha, T.cl, T.nM, f_m _ _ _, .inr ⟨i, rfl, int_small tm, _, rfl, fitN ?_, _, rfl, fitN ?_,
          _, rfl, a, C, dx, _, _, rfl, ha, T.cl, T.nD, f_d _ _ _, .inr ⟨j, rfl, int_small td, _, rfl, fitN ?_, _, rfl, fitN ?_, ?_⟩⟩⟩⟩
        · rw [strLen_append, emp, dPar]; omega
        · rw [strLen_append, strLen_append, emp, dPar]; omega
        · rw [strLen_append, strLen_append, strLen_append, emp, dPar, dCom]; omega
        · rw [strLen_append, strLen_append, strLen_append, strLen_append, emp, dPar, dCom]; omega
        · rw [strLen_append, strLen_append, strLen_append, strLen_append, strLen_append, emp, dPar, dCom]; omega
        · rw [strLen_append, strLen_append, strLen_append, strLen_append, strLen_append, strLen_append, emp, dPar, dCom]; omega
        · rw [strLen_append, strLen_append, strLen_append, strLen_append, strLen_append, strLen_append, strLen_append, emp, dPar, dCom, dEnd]; omega
        · show Q (V.str (Str.empty ++ "Day(" ++ Str.ofString (toString y) ++ ", " ++ Str.ofString (toString i) ++ ", " ++ Str.ofString (toString j) ++ ")")) H
          have e : Str.empty ++ "Day(" ++ Str.ofString (toString y) ++ ", " ++ Str.ofString (toString i) ++ ", " ++ Str.ofString (toString j) ++ ")" = dayRepr y (some i) (some j) := by
            show _ = "Day(" ++ (Str.ofString (toString y) ++ ", " ++ (Str.ofString (toString i) ++ ", " ++ Str.ofString (toString j))) ++ ")"
            simp only [Str.append_assoc, Str.empty_append]
          rw [e]
          exact q
def spBey : Sp := fun vs H Q _ => ∃ i : Int, vs = [.int i] ∧ Q (.int (i % 60)) H
def lenText (i : Int) : Str := Str.ofString (toString (i / 60)) ++ ":" ++ zpad 2 (i % 60)
def lenRepr (i : Int) : Str := "Length(" ++ Str.ofString (toString i) ++ ")"
def spStrL (C : Addr) : Sp := fun vs H Q _ => ∃ (a : Addr) (i : Int), vs = [.ref a] ∧ LenAt C H a i ∧ 0 ≤ i ∧ i ≤ 359999 ∧ Q (.str (lenText i)) H
def spReprL (C : Addr) : Sp := fun vs H Q _ => ∃ (a : Addr) (i : Int), vs = [.ref a] ∧ LenAt C H a i ∧ 0 ≤ i ∧ i ≤ 359999 ∧ Q (.str (lenRepr i)) H
theorem tx_len {i : Int} (h0 : 0 ≤ i) (h1 : i < 10 ^ 9) : (Str.ofString (toString i)).length ≤ 9 := toString_length_le h0 (by decide) h1
theorem ok_bey {f : Addr} {fd : FuncData} (D : Df K mg "beyond_minutes" ["seconds"] sBeyondMinutes f fd)  : FnOk P w K mg base CX0 1 f fd ["seconds"] spBey := by
  refine D.fn.ok scBeyondMinutes (fun vs H Q E h => ?_) (fun cdv A outer s H vs Q E hr h => ?_)
  · obtain ⟨i, rfl, q⟩ := h
    rfl
  · obtain ⟨i, rfl, q⟩ := h
    refine ⟨_, (pss_one (ps_ret (pe_op op_mod (pv 0) pe_int))), ?_⟩
    exact ⟨_, rfl, i, 60, rfl, rfl, (by show (0 : Int) < 60; decide), q⟩
theorem ok_strL {f : Addr} {fd : FuncData} {e : Ex} (F : Fun K "__str__" "Length.__str__" sLengthStr f fd) (T : Txt K mg C CL e) (nd : base.NoDigits) (cB : Ca P w K mg base 1 "beyond_minutes" ["seconds"] spBey) : FnOk P w K mg base CX0 2 f fd ["self"] (spStrL CL) := by
  refine F.ok scLengthStr (fun vs H Q E h => ?_) (fun cdv A outer s H vs Q E hr h => ?_)
  · obtain ⟨a, i, rfl, ⟨dx, ha⟩, h0, h1, q⟩ := h
    rfl
  · obtain ⟨a, i, rfl, ⟨dx, ha⟩, h0, h1, q⟩ := h
    refine ⟨_, (pss_one (ps_ret (pe_joined (.cons (pe_fmt (pe_op op_fdiv (pe_fld (pv 0) rfl) pe_int)) (.cons pe_str (.cons (pe_fmtS (spec := "02d") (W := 2) nd (by decide +kernel) (by decide +kernel) (by decide +kernel) (by decide +kernel) (pe_ca cB hr (by decide) (by rfl) (pa_cons (pe_fld (pv 0) rfl) pa_nil)) (pe_joined1 pe_str)) .nil)))))), ?_⟩
    have t6 : Tiny (i % 60) := ⟨by omega, by omega⟩
    have l2 := zpad_len (W := 2) (by decide) t6
    have l1 := tx_len (i := i / 60) (by omega) (by omega)
    have c1 : (":" : Str).length = 1 := by decide +kernel
    have e0 : Str.empty.length = 0 := rfl
    refine ⟨_, rfl, a, CL, dx, _, _, rfl, ha, T.clL, T.nS, f_s i, i, 60, rfl, rfl, ⟨by decide, by decide⟩, .inr ⟨_, rfl, lg (by omega) (by omega), ?_⟩⟩
    refine ⟨_, rfl, fitN ?_, _, rfl, fitN ?_, _, rfl, a, CL, dx, _, _, rfl, ha, T.clL, T.nS, f_s i, i, rfl, _, rfl, t6, _, rfl, fitN ?_, ?_⟩
    · rw [strLen_append, e0]; omega
    · rw [strLen_append, strLen_append, e0, c1]; omega
    · rw [strLen_append, strLen_append, strLen_append, e0, c1]; omega
    · show Q (V.str (Str.empty ++ Str.ofString (toString (i / 60)) ++ ":" ++ zpad 2 (i % 60))) H
      rw [Str.empty_append]
      exact q
theorem ok_reprL {f : Addr} {fd : FuncData} {e : Ex} (F : Fun K "__repr__" "Length.__repr__" sLengthRepr f fd) (T : Txt K mg C CL e) : FnOk P w K mg base CX0 1 f fd ["self"] (spReprL CL) := by
  refine F.ok scLengthRepr (fun vs H Q E h => ?_) (fun cdv A outer s H vs Q E hr h => ?_)
  · obtain ⟨a, i, rfl, ⟨dx, ha⟩, h0, h1, q⟩ := h
    rfl
  · obtain ⟨a, i, rfl, ⟨dx, ha⟩, h0, h1, q⟩ := h
    refine ⟨_, (pss_one (ps_ret (pe_joined (.cons pe_str (.cons (pe_fmt (pe_fld (pv 0) rfl)) (.cons pe_str .nil)))))), ?_⟩
    have l1 := tx_len (i := i) (by omega) (by omega)
    have c1 : ("Length(" : Str).length = 7 := by decide +kernel
    have c2 : (")" : Str).length = 1 := by decide +kernel
    have e0 : Str.empty.length = 0 := rfl
    refine ⟨_, rfl, fitN ?_, _, rfl, a, CL, dx, _, _, rfl, ha, T.clL, T.nS, f_s i, .inr ⟨_, rfl, lg (by omega) (by omega), _, rfl, fitN ?_, _, rfl, fitN ?_, ?_⟩⟩
    · rw [strLen_append, e0, c1]; omega
    · rw [strLen_append, strLen_append, e0, c1]; omega
    · rw [strLen_append, strLen_append, strLen_append, e0, c1, c2]; omega
    · show Q (V.str (Str.empty ++ "Length(" ++ Str.ofString (toString i) ++ ")")) H
      rw [Str.empty_append]
      exact q
end
end K69
set_option Elab.async false
set_option linter.all false
set_option maxRecDepth 100000
set_option maxHeartbeats 4000000
set_option pp.maxSteps 400
set_option pp.deepTerms false
namespace K69
open PySem PySem.Spec PyProof.Rows L2
open Xk Az Xtx
section
variable {P : Program} {w : World} {K : PySem.W.Frag} {mg : Str → Option Value} {base : Heap} {C CL : Addr}
abbrev far : Int := 1000000
def spHand (K : PySem.W.Frag) : Sp := fun vs H Q _ => ∃ (a : Addr) (k : Int) (ns : List Int), vs = [.ref a, .int k] ∧ 0 ≤ k ∧ SqL K H a (ns.map V.int) ∧
  ∀ p g m, H p = none → 0 ≤ g → 0 ≤ m → m < 2305843009213693951 → Q (.ref p) (upd H p (.lst [.int g, .int m, .int 0]))
def spTake : Sp := fun vs H Q _ => ∃ (h : Addr) (many n : Int), vs = [.ref h, .int many] ∧ 0 < many ∧ many < 10 ^ 30 ∧ Hand n H h ∧ n ≤ far ∧
  ∀ d H', 0 ≤ d → d < many → Hand (n + 1) H' h → But h H H' → Q (.int d) H'
def spPick : Sp := fun vs H Q _ => ∃ (h : Addr) (n : Int) (s : V), vs = [.ref h, s] ∧ Hand n H h ∧ n ≤ far ∧
  ((∃ (l : Addr) (xs : List V), s = .ref l ∧ H l = some (.lst xs) ∧ l ≠ h ∧ xs ≠ [] ∧ xs.length < 1000 ∧ ∀ v H', v ∈ xs → Hand (n + 1) H' h → But h H H' → Q v H') ∨
   (∃ x : Str, s = .str x ∧ 0 < x.length ∧ x.length < 1000 ∧ ∀ c H', c ∈ x.cps.toList → Hand (n + 1) H' h → But h H H' → Q (.str ⟨#[c]⟩) H'))
theorem wide30 {g many : Int} (m1 : 0 < many) (m2 : many < 10 ^ 30) : CDivW g many := by
  have h : (10 : Int) ^ 30 < 2 ^ 110 := by decide
  exact wide_div (b := 110) m1 (by omega) (by decide) (by decide)
theorem lt30 {n : Nat} (h : n < 1000) : (n : Int) < 10 ^ 30 := Int.lt_trans (Int.ofNat_lt.mpr h) (by decide)
theorem lt30i {i : Int} (h : i < 1000000) : i < 10 ^ 30 := Int.lt_trans h (by decide)
theorem b01 (b : Bool) : -(2 ^ 64) < (if b = true then (1 : Int) else 0) ∧ (if b = true then (1 : Int) else 0) < 2 ^ 64 := by cases b <;> decide
theorem b0 (b : Bool) : 0 ≤ (if b = true then (1 : Int) else 0) := by cases b <;> decide
theorem ok_hand {f : Addr} {fd : FuncData} (D : Df K mg "_law_hand" ["_law_script", "_law_k"] sHand f fd) (T : Txt K mg C CL e) : FnOk P w K mg base CX0 1 f fd ["_law_script", "_law_k"] (spHand K) := by
  refine D.fn.ok scHand (fun vs H Q E h => ?_) (fun cdv A outer s H vs Q E hr h => ?_)
  · obtain ⟨a, k, ns, rfl, _⟩ := h
    rfl
  · obtain ⟨a, k, ns, rfl, hk, hS, q⟩ := h
    refine ⟨_, pss_cons (ps_set (i := 2) scHand.nd rfl (.inl rfl) (pe_ifExp (pt_cmpR op_lt (pv 1) (pe_callB call_len_seq (by rfl) T.len PySem.boot_len (pa_cons (pv 0) pa_nil)) (nomark _)) (pe_ix ix_list (pv 0) (pv 1) (fun _ _ => rfl)) pe_int))
      (pss_cons (ps_set (i := 3) scHand.nd rfl (.inl rfl) (pe_op op_mul (pe_op op_mod (pe_callB call_abs (by rfl) T.abs (by decide +kernel) (pa_cons (pv 2) pa_nil)) (pe_op op_mulW (pe_op op_pow pe_int pe_int) (pe_op op_pow pe_int pe_int)))
        (pe_callTy call_int1 (by rfl) T.int (by decide +kernel) (pa_cons (pe_cmpR op_ge (pe_callB call_abs (by rfl) T.abs (by decide +kernel) (pa_cons (pv 2) pa_nil)) (pe_op op_pow pe_int pe_int) (nomark _)) pa_nil))))
      (pss_one (ps_ret (pe_lst (pa_cons (pv 3) (pa_cons (pe_op op_mod (pe_op op_add (pe_op op_add (pe_op op_mod (pv 2) pe_int) (pe_op op_mul pe_int (pv 1))) pe_int) pe_int) (pa_cons pe_int pa_nil))))))), ?_⟩
    refine ⟨_, rfl, _, rfl, a, _, rfl, .inl hS, k, _, rfl, rfl, _, rfl, ?_⟩
    refine ite2 (fun e => ?_) (fun e => ?_)
    · have hlt : k < ((ns.map V.int).length : Int) := of_decide_eq_true e
      rw [List.length_map] at hlt
      obtain ⟨j, rfl⟩ : ∃ j : Nat, k = (j : Int) := ⟨k.toNat, by omega⟩
      have hj : j < ns.length := by omega
      have hat : atI (ns.map V.int) ((j : Nat) : Int) = some (.int ns[j]) := atI_nat (by rw [List.getElem?_map, List.getElem?_eq_getElem hj]; rfl)
      refine ⟨_, rfl, _, rfl, a, _, _, _, rfl, rfl, hS, hat, ?_⟩
      refine ⟨_, rfl, ns[j], rfl, 10, 60, rfl, rfl, ⟨by decide, by decide, by decide⟩, 10, 60, rfl, rfl, ⟨by decide, by decide, by decide⟩, _, _, rfl, rfl, ?_, _, _, rfl, rfl, ?_, ?_⟩
      · exact wide_mul (a := 300) (b := 300) (by decide +kernel) (by decide +kernel) (by decide) (by decide) (by decide)
      · show (0 : Int) < 10 ^ (60 : Int).toNat * 10 ^ (60 : Int).toNat
        decide +kernel
      · refine ⟨_, rfl, ns[j], rfl, 10, 18, rfl, rfl, ⟨by decide, by decide, by decide⟩, _, _, rfl, rfl, .inr ⟨_, rfl, _, _, rfl, rfl, .inr ?_, ?_⟩⟩
        · exact b01 _
        · refine ⟨_, rfl, _, rfl, ns[j], 2305843009213693951, rfl, rfl, (by show (0 : Int) < 2305843009213693951; decide), _, rfl, 7919, _, rfl, rfl, .inl (by decide), _, _, rfl, rfl, _, _, rfl, rfl, _, _, rfl, rfl, (by show (0 : Int) < 2305843009213693951; decide), (by show 3 ≤ sizeLine; decide), fun p np => ?_⟩
          refine q p _ _ np ?_ (Int.emod_nonneg _ (by decide)) (Int.emod_lt_of_pos _ (by decide))
          refine Int.mul_nonneg (Int.emod_nonneg _ (by decide +kernel)) ?_
          exact b0 _
    · refine ⟨_, rfl, 0, rfl, 10, 60, rfl, rfl, ⟨by decide, by decide, by decide⟩, 10, 60, rfl, rfl, ⟨by decide, by decide, by decide⟩, _, _, rfl, rfl, ?_, _, _, rfl, rfl, ?_, ?_⟩
      · exact wide_mul (a := 300) (b := 300) (by decide +kernel) (by decide +kernel) (by decide) (by decide) (by decide)
      · show (0 : Int) < 10 ^ (60 : Int).toNat * 10 ^ (60 : Int).toNat
        decide +kernel
      · refine ⟨_, rfl, 0, rfl, 10, 18, rfl, rfl, ⟨by decide, by decide, by decide⟩, _, _, rfl, rfl, .inr ⟨_, rfl, _, _, rfl, rfl, .inr ?_, ?_⟩⟩
        · exact b01 _
        · refine ⟨_, rfl, _, rfl, 0, 2305843009213693951, rfl, rfl, (by show (0 : Int) < 2305843009213693951; decide), _, rfl, 7919, _, rfl, rfl, .inl (by decide), _, _, rfl, rfl, _, _, rfl, rfl, _, _, rfl, rfl, (by show (0 : Int) < 2305843009213693951; decide), (by show 3 ≤ sizeLine; decide), fun p np => ?_⟩
          refine q p _ _ np ?_ (Int.emod_nonneg _ (by decide)) (Int.emod_lt_of_pos _ (by decide))
          refine Int.mul_nonneg (Int.emod_nonneg _ (by decide +kernel)) ?_
          exact b0 _
theorem ok_take {f : Addr} {fd : FuncData} (D : Df K mg "_law_take" ["_law_hand_here", "_law_many"] sTake f fd) : FnOk P w K mg base CX0 1 f fd ["_law_hand_here", "_law_many"] spTake := by
  refine D.fn.ok scTake (fun vs H Q E h => ?_) (fun cdv A outer s H vs Q E hr h => ?_)
  · obtain ⟨h, many, n, rfl, _⟩ := h
    rfl
  · obtain ⟨h, many, n, rfl, m1, m2, ⟨g, m, c, hh, g0, k0, k1, c0, c1⟩, hn, q⟩ := h
    refine ⟨_, pss_cons (ps_if (pt_cmpR op_gt (pe_ix ix_list (pv 0) pe_int (fun _ _ => rfl)) pe_int (nomark _))
        (pss_cons (ps_set (i := 2) scTake.nd rfl (.inl rfl) (pe_op op_mod (pe_ix ix_list (pv 0) pe_int (fun _ _ => rfl)) (pv 1)))
        (pss_cons (ps_asg (pe_op op_fdivW (pe_ix ix_list (pv 0) pe_int (fun _ _ => rfl)) (pv 1)) (pg_sub (pv 0) pe_int set_list))
        (pss_one (ps_ret (pv 2))))) pss_nil)
      (pss_cons (ps_asg (pe_op op_add (pe_ix ix_list (pv 0) pe_int (fun _ _ => rfl)) pe_int) (pg_sub (pv 0) pe_int set_list))
      (pss_cons (ps_set (i := 3) scTake.nd rfl (.inl rfl) (pe_op op_mod (pe_op op_mul (pe_op op_add (pe_op op_add (pe_ix ix_list (pv 0) pe_int (fun _ _ => rfl))
          (pe_op op_mul (pe_op op_mul pe_int (pe_ix ix_list (pv 0) pe_int (fun _ _ => rfl))) (pe_ix ix_list (pv 0) pe_int (fun _ _ => rfl)))) pe_int) pe_int) pe_int))
      (pss_cons (ps_set (i := 3) scTake.nd rfl (.inl rfl) (pe_op op_mod (pe_op op_mul (pv 3) (pe_op op_add (pe_op op_mod (pv 3) pe_int) (pe_op op_mul pe_int (pe_ix ix_list (pv 0) pe_int (fun _ _ => rfl))))) pe_int))
      (pss_one (ps_ret (pe_op op_mod (pe_op op_add (pe_op op_fdiv (pv 3) pe_int) (pe_op op_fdiv (pv 3) pe_int)) (pv 1))))))), ?_⟩
    have far' : n ≤ 1000000 := hn
    refine ⟨_, rfl, h, _, 0, _, rfl, rfl, SqL.of hh, atI_nat (j := 0) rfl, g, 0, rfl, rfl, _, rfl, ite2 (fun e => ?_) (fun e => ?_)⟩
    · refine ⟨_, rfl, h, _, 0, _, rfl, rfl, SqL.of hh, atI_nat (j := 0) rfl, _, rfl, g, many, rfl, rfl, m1, ?_⟩
      refine ⟨_, rfl, h, _, 0, _, rfl, rfl, SqL.of hh, atI_nat (j := 0) rfl, _, rfl, g, many, rfl, rfl, wide30 m1 m2, _, rfl, h, _, 0, 0, rfl, rfl, hh, rfl, ?_⟩
      refine ⟨_, rfl, ?_⟩
      exact q _ _ (Int.emod_nonneg _ (by omega)) (Int.emod_lt_of_pos _ m1) ⟨g / many, m, c, upd_same, Int.ediv_nonneg g0 (by omega), k0, k1, c0, by omega⟩ but_upd
    · refine ⟨_, rfl, h, _, 2, _, rfl, rfl, SqL.of hh, atI_nat (j := 2) rfl, c, 1, rfl, rfl, _, rfl, h, _, 2, 2, rfl, rfl, hh, rfl, ?_⟩
      have h2 : (upd H h (.lst [.int g, .int m, .int (c + 1)])) h = some (.lst [.int g, .int m, .int (c + 1)]) := upd_same
      have s2 := SqL.of (K := K) h2
      refine ⟨_, rfl, h, _, 1, _, rfl, rfl, s2, atI_nat (j := 1) rfl, _, rfl, h, _, 2, _, rfl, rfl, s2, atI_nat (j := 2) rfl, 65537, c + 1, rfl, rfl, .inl (by decide), _, rfl, h, _, 2, _, rfl, rfl, s2, atI_nat (j := 2) rfl, _, c + 1, rfl, rfl, .inr (by omega),
        m, _, rfl, rfl, _, 11, rfl, rfl, _, 48271, rfl, rfl, .inr (by decide), _, 2305843009213693921, rfl, rfl, (by show (0 : Int) < 2305843009213693921; decide), ?_⟩
      generalize (m + 65537 * (c + 1) * (c + 1) + 11) * 48271 = z
      have z0 : 0 ≤ z % 2305843009213693921 := Int.emod_nonneg _ (by decide)
      have z1 : z % 2305843009213693921 < 2305843009213693921 := Int.emod_lt_of_pos _ (by decide)
      refine ⟨_, rfl, _, rfl, _, 1000003, rfl, rfl, (by show (0 : Int) < 1000003; decide), _, rfl, h, _, 2, _, rfl, rfl, s2, atI_nat (j := 2) rfl, 99991, c + 1, rfl, rfl, .inl (by decide), _, _, rfl, rfl, _, _, rfl, rfl, .inl (by omega),
        _, 2305843009213693907, rfl, rfl, (by show (0 : Int) < 2305843009213693907; decide), ?_⟩
      refine ⟨_, rfl, _, 97, rfl, rfl, ⟨by decide, by decide⟩, _, rfl, _, 1000033, rfl, rfl, ⟨by decide, by decide⟩, _, _, rfl, rfl, _, rfl, _, many, rfl, rfl, m1, ?_⟩
      exact q _ _ (Int.emod_nonneg _ (by omega)) (Int.emod_lt_of_pos _ m1) ⟨g, m, c + 1, h2, g0, k0, k1, by omega, by omega⟩ but_upd
theorem ok_pick {f : Addr} {fd : FuncData} {e : Ex} (D : Df K mg "_law_pick" ["_law_hand_here", "_law_some"] sPick f fd) (T : Txt K mg C CL e) (cT : Ca P w K mg base 1 "_law_take" ["_law_hand_here", "_law_many"] spTake) : FnOk P w K mg base CX0 2 f fd ["_law_hand_here", "_law_some"] spPick := by
  refine D.fn.ok scPick (fun vs H Q E h => ?_) (fun cdv A outer s H vs Q E hr h => ?_)
  · obtain ⟨h, n, s, rfl, hh, hn, q⟩ := h
    rfl
  · obtain ⟨h, n, s, rfl, hh, hn, q⟩ := h
    refine ⟨_, (pss_one (ps_ret (pe_ix ix_seq (pv 1) (pe_ca cT hr (by decide) (by rfl) (pa_cons (pv 0) (pa_cons (pe_callB (cr_alt call_len_seq call_len_str) (by rfl) T.len PySem.boot_len (pa_cons (pv 1) pa_nil)) pa_nil))) (fun _ _ => rfl)))), ?_⟩
    refine ⟨_, rfl, _, rfl, _, rfl, ?_⟩
    rcases q with ⟨l, xs, rfl, hl, nl, ne, few, q⟩ | ⟨x, rfl, pos, few, q⟩
    · have pos : 0 < xs.length := List.length_pos_iff.mpr ne
      refine .inl ⟨l, xs, rfl, .inl (SqL.of hl), h, (xs.length : Int), n, rfl, by omega, lt30 few, hh, hn, fun d H' d0 d1 hh' bt => ?_⟩
      obtain ⟨j, rfl⟩ : ∃ j : Nat, d = (j : Int) := ⟨d.toNat, by omega⟩
      have hj : j < xs.length := by omega
      refine .inl ⟨l, xs, _, xs[j], rfl, rfl, SqL.of (bt _ _ nl hl), atI_nat (List.getElem?_eq_getElem hj), ?_⟩
      exact q _ H' (List.getElem_mem hj) hh' bt
    · have sz : x.length ≤ sizeLine := Nat.le_trans (show x.length ≤ 1000 by omega) (by decide)
      refine .inr ⟨x, rfl, sz, h, (x.length : Int), n, rfl, by omega, lt30 few, hh, hn, fun d H' d0 d1 hh' bt => ?_⟩
      obtain ⟨j, rfl⟩ : ∃ j : Nat, d = (j : Int) := ⟨d.toNat, by omega⟩
      have hj : j < x.cps.toList.length := by
        have : x.length = x.cps.toList.length := by rw [Array.length_toList]; rfl
        omega
      refine .inr (.inr ⟨x, _, x.cps.toList[j], rfl, rfl, sz, atI_nat (List.getElem?_eq_getElem hj), ?_⟩)
      exact q _ H' (List.getElem_mem hj) hh' bt
end
end K69
set_option Elab.async false
set_option linter.all false
set_option maxRecDepth 100000
set_option maxHeartbeats 4000000
set_option pp.maxSteps 400
set_option pp.deepTerms false
namespace K69
open PySem PySem.Spec PyProof.Rows L2
open Xk Az Xtx
section
variable {P : Program} {w : World} {K : PySem.W.Frag} {mg : Str → Option Value} {base : Heap} {C CL : Addr}
def letts (x : Str) : Prop := ∀ c ∈ x.cps.toList, c ∈ small.cps.toList
theorem fig_iff (c : Nat) : c ∈ figs.cps.toList ↔ 48 ≤ c ∧ c ≤ 57 := by
  rw [show figs.cps.toList = [48, 49, 50, 51, 52, 53, 54, 55, 56, 57] by decide +kernel]
  simp only [List.mem_cons, List.not_mem_nil, or_false]
  omega
theorem chk_figs (z : Str) : chk z figs = true ↔ NumText.AllDigits z.cps.toList := by
  unfold chk
  rw [List.all_eq_true]
  constructor
  · intro h c hc
    exact (fig_iff c).mp (of_decide_eq_true (h c hc))
  · intro h c hc
    exact decide_eq_true ((fig_iff c).mpr (h c hc))
theorem ofT_iff {x sg : Str} {a b : Int} : ofT (.str x) sg a b = true ↔ a ≤ (x.length : Int) ∧ (x.length : Int) ≤ b ∧ chk x sg = true := by
  show (decide (a ≤ (x.length : Int)) && decide ((x.length : Int) ≤ b) && chk x sg) = true ↔ _
  rw [Bool.and_eq_true, Bool.and_eq_true, decide_eq_true_eq, decide_eq_true_eq]
  exact ⟨fun h => ⟨h.1.1, h.1.2, h.2⟩, fun h => ⟨⟨h.1, h.2.1⟩, h.2.2⟩⟩
theorem chk_iff {x sg : Str} : chk x sg = true ↔ ∀ c ∈ x.cps.toList, c ∈ sg.cps.toList := by
  unfold chk
  rw [List.all_eq_true]
  exact ⟨fun h c hc => of_decide_eq_true (h c hc), fun h c hc => decide_eq_true (h c hc)⟩
/-- the text of a number -/
abbrev nT (n : Int) : Str := Str.ofString (toString n)
theorem nT_list (m : Nat) : (nT (m : Int)).cps.toList = TL.numL m := TL.tl_num m
theorem numL_head {n : Nat} (h : 0 < n) : ∃ c r, TL.numL n = c :: r ∧ 49 ≤ c := by
  induction n using Nat.strongRecOn with
  | _ n ih =>
    by_cases c : n < 10
    · exact ⟨48 + n, [], TL.numL_lt c, by omega⟩
    · obtain ⟨d, r, e, g⟩ := ih (n / 10) (by omega) (by omega)
      exact ⟨d, r ++ [48 + n % 10], by rw [TL.numL_step (by omega), e]; rfl, g⟩
theorem digits_lt : ∀ (cs : List Nat) (a : Nat), NumText.AllDigits cs → cs.foldl (fun acc c => acc * 10 + (c - 48)) a < (a + 1) * 10 ^ cs.length
  | [], a, _ => by simp
  | c :: r, a, h => by
    have hc := h c List.mem_cons_self
    have ih := digits_lt r (a * 10 + (c - 48)) fun d hd => h d (List.mem_cons_of_mem _ hd)
    rw [List.foldl_cons, List.length_cons]
    refine Nat.lt_of_lt_of_le ih ?_
    rw [Nat.pow_succ, Nat.mul_comm (10 ^ r.length) 10, ← Nat.mul_assoc]
    exact Nat.mul_le_mul_right _ (by omega)
def numP (z : Str) : Option Int :=
  if ofT (.str z) figs 1 30 = true then (if z.cps.toList.head? = some 48 ∧ z ≠ "0" then none else some ((NumText.digitsVal z.cps.toList : Nat) : Int)) else none
theorem num_of {m : Nat} (h : m < 10 ^ 30) : numP (nT (m : Int)) = some (m : Int) := by
  have el := nT_list m
  have len : (nT (m : Int)).length = (TL.numL m).length := by rw [len_cps, el]
  have a : ofT (.str (nT (m : Int))) figs 1 30 = true := by
    rw [ofT_iff, len]
    have l1 := TL.numL_len (k := 30) (by decide) h
    have l2 : 0 < (TL.numL m).length := List.length_pos_iff.mpr (TL.numL_ne m)
    exact ⟨by omega, by omega, (chk_figs _).mpr (by rw [el]; exact TL.numL_digits m)⟩
  unfold numP
  rw [if_pos a, if_neg, el, TL.numL_val]
  rintro ⟨h1, h2⟩
  by_cases z : m = 0
  · subst z
    exact h2 (by decide +kernel)
  · obtain ⟨c, r, e, g⟩ := numL_head (Nat.pos_of_ne_zero z)
    rw [el, e] at h1
    have : c = 48 := by simpa using h1
    omega
theorem num_back {z : Str} {n : Int} (h : numP z = some n) : ∃ m : Nat, n = (m : Int) ∧ m < 10 ^ 30 ∧ z = nT (m : Int) := by
  unfold numP at h
  by_cases a : ofT (.str z) figs 1 30 = true
  · rw [if_pos a] at h
    by_cases b : z.cps.toList.head? = some 48 ∧ z ≠ "0"
    · rw [if_pos b] at h; cases h
    · rw [if_neg b] at h
      cases h
      obtain ⟨l1, l30, ck⟩ := ofT_iff.mp a
      have ad := (chk_figs z).mp ck
      have lz := len_cps z
      refine ⟨_, rfl, ?_, Xtx.str_eq ?_⟩
      · have d := digits_lt z.cps.toList 0 ad
        rw [Nat.zero_add, Nat.one_mul] at d
        exact Nat.lt_of_lt_of_le d (Nat.pow_le_pow_right (by decide) (by omega))
      · rw [nT_list]
        unfold TL.numL
        obtain ⟨k, hk⟩ : ∃ k, z.cps.toList.length = k + 1 := ⟨z.cps.toList.length - 1, by omega⟩
        rw [NumText.toDigits_digitsVal k z.cps.toList hk ad, List.map_map]
        · conv => lhs; rw [← List.map_id z.cps.toList]
          refine List.map_congr_left fun c hc => ?_
          have := ad c hc
          have v : ∀ c : Nat, 48 ≤ c → c ≤ 57 → (Char.ofNat c).toNat = c := by
            intro c h1 h2
            have cs : c = 48 ∨ c = 49 ∨ c = 50 ∨ c = 51 ∨ c = 52 ∨ c = 53 ∨ c = 54 ∨ c = 55 ∨ c = 56 ∨ c = 57 := by omega
            rcases cs with rfl | rfl | rfl | rfl | rfl | rfl | rfl | rfl | rfl | rfl <;> rfl
          exact (v c this.1 this.2).symm
        · by_cases k0 : k = 0
          · exact .inl k0
          · right
            cases e : z.cps.toList with
            | nil => rw [e] at hk; cases hk
            | cons c r =>
              refine ⟨c, r, rfl, ?_⟩
              have hc := ad c (by rw [e]; exact List.mem_cons_self)
              have n48 : c ≠ 48 := fun q => b ⟨by rw [e, q]; rfl, fun q2 => by
                rw [q2] at hk
                exact k0 (by have : ("0" : Str).cps.toList.length = 1 := by decide +kernel
                             omega)⟩
              omega
  · rw [if_neg a] at h; cases h
theorem tl_bl : TL.tl " " = 32 :: [] := by decide +kernel
theorem tl_cb : TL.tl ", " = 44 :: [32] := by decide +kernel
theorem tl_cl : TL.tl ": " = 58 :: [32] := by decide +kernel
theorem joinL_cons (S p : List Nat) {X : List (List Nat)} (h : X ≠ []) : TL.joinL S (p :: X) = p ++ (S ++ TL.joinL S X) := by
  cases X with
  | nil => exact absurd rfl h
  | cons q r => rfl
theorem spl_ne (S : List Nat) : ∀ (n k : Nat) (acc L : List Nat), L.length ≤ n → TL.spl S k acc L ≠ []
  | _, k, acc, [], _ => by rw [TL.spl_nil]; simp
  | n + 1, k, acc, c :: r, h => by
    rw [List.length_cons] at h
    cases k with
    | succ k =>
      rw [TL.spl_pass]
      rw [List.drop_succ_cons, ← TL.spl_pass S k]
      exact spl_ne S n k acc r (by omega)
    | zero =>
      cases hp : TL.pre S (c :: r) with
      | true => rw [TL.spl_hit hp]; simp
      | false => rw [TL.spl_miss hp]; exact spl_ne S n 0 _ r (by omega)
theorem join_spl {S : List Nat} (hS : S ≠ []) : ∀ (n : Nat) (acc L : List Nat), L.length ≤ n → TL.joinL S (TL.spl S 0 acc L) = acc ++ L
  | _, acc, [], _ => by rw [TL.spl_nil, List.append_nil]; rfl
  | n + 1, acc, c :: r, h => by
    rw [List.length_cons] at h
    cases hp : TL.pre S (c :: r) with
    | true =>
      rw [TL.spl_hit hp, TL.spl_pass, joinL_cons _ _ (spl_ne S _ 0 [] _ (Nat.le_refl _)), join_spl hS n [] (r.drop (S.length - 1)) (by rw [List.length_drop]; omega), List.nil_append]
      have e : (c :: r).take S.length = S := eq_of_beq hp
      have l : 0 < S.length := List.length_pos_iff.mpr hS
      congr 1
      have d := List.take_append_drop S.length (c :: r)
      rw [e] at d
      obtain ⟨m, hm⟩ : ∃ m, S.length = m + 1 := ⟨S.length - 1, by omega⟩
      rw [hm, List.drop_succ_cons] at d
      rw [hm, Nat.add_sub_cancel]
      exact d
    | false =>
      rw [TL.spl_miss hp, join_spl hS n (acc ++ [c]) r (by omega), List.append_assoc]
      rfl
theorem join_split {x y : Str} (hy : TL.tl y ≠ []) (hk : y.cps.all (· < 256) = true) : Txt.join y (Txt.split x y) = x := by
  refine Xtx.str_eq ?_
  show TL.tl (Txt.join y (Txt.split x y)) = TL.tl x
  rw [TL.join_eq, TL.tl_join, TL.split_spl x y hy (TL.kind_ok hk), join_spl hy _ [] (TL.tl x) (Nat.le_refl _), List.nil_append]
theorem small_month {y : Int} {m d : Option Int} (g : Good y m d) : (∀ i, m = some i → 0 ≤ i ∧ i < 100) ∧ ∀ i, d = some i → 0 ≤ i ∧ i < 100 := by
  obtain ⟨g1, g2, g3⟩ := g
  cases m with
  | none =>
    have : d = none := g3
    subst this
    exact ⟨fun i z => (by cases z), fun i z => (by cases z)⟩
  | some i =>
    obtain ⟨g4, g5, g6⟩ := g3
    refine ⟨fun k z => ?_, fun k z => ?_⟩
    · cases z
      omega
    · subst z
      have := lastDay_ge y i
      obtain ⟨a, b⟩ := g6
      omega
theorem tl_da : TL.tl "-" = 45 :: [] := by decide +kernel
theorem tl_c1 : TL.tl ":" = 58 :: [] := by decide +kernel
theorem dv_zeros (k : Nat) (l : List Nat) : NumText.digitsVal (List.replicate k 48 ++ l) = NumText.digitsVal l := by
  induction k with
  | zero => rfl
  | succ k ih =>
    rw [List.replicate_succ, List.cons_append, NumText.digitsVal_zero]
    exact ih
theorem nDig_num (m : Nat) : nDig (m : Int) = (TL.numL m).length := by
  rw [← nT_list, ← len_cps, len_text (by omega)]
theorem zp_list (W m : Nat) : (zpad W (m : Int)).cps.toList = List.replicate (W - (TL.numL m).length) 48 ++ TL.numL m := by
  unfold zpad
  rw [Str.cps_append, Array.toList_append, nT_list, nDig_num]
  rfl
theorem ad_num (m : Nat) : NumText.AllDigits (TL.numL m) := TL.numL_digits m
theorem zp_digits (W m : Nat) : NumText.AllDigits (zpad W (m : Int)).cps.toList := fun c hc => by
  rw [zp_list] at hc
  rcases List.mem_append.mp hc with h | h
  · have := (List.mem_replicate.mp h).2
    omega
  · exact ad_num m c h
theorem zp_val (W m : Nat) : NumText.digitsVal (zpad W (m : Int)).cps.toList = m := by
  rw [zp_list, dv_zeros, TL.numL_val]
theorem zp_len {W m : Nat} (h : (TL.numL m).length ≤ W) : (zpad W (m : Int)).length = W := by
  rw [len_cps, zp_list, List.length_append, List.length_replicate]
  omega
theorem num2 {m : Nat} (h : m < 100) : (TL.numL m).length ≤ 2 := TL.numL_len (k := 2) (by decide) (by omega)
theorem num4 {m : Nat} (h : m < 10000) : (TL.numL m).length ≤ 4 := TL.numL_len (k := 4) (by decide) (by omega)
theorem dw_48 : ∀ cs : List Nat, ∃ k, cs = List.replicate k 48 ++ cs.dropWhile (· == 48)
  | [] => ⟨0, rfl⟩
  | c :: r => by
    obtain ⟨k, e⟩ := dw_48 r
    by_cases h : c = 48
    · refine ⟨k + 1, ?_⟩
      rw [List.dropWhile_cons, if_pos (by rw [beq_iff_eq]; exact h), List.replicate_succ, List.cons_append, ← e, h]
    · refine ⟨0, ?_⟩
      rw [List.dropWhile_cons, if_neg (by rw [beq_iff_eq]; exact h)]
      rfl
theorem chr_id : ∀ {cs : List Nat}, NumText.AllDigits cs → (cs.map Char.ofNat).map Char.toNat = cs
  | [], _ => rfl
  | c :: r, h => by
    have hc := h c List.mem_cons_self
    have v : (Char.ofNat c).toNat = c := by
      have cs : c = 48 ∨ c = 49 ∨ c = 50 ∨ c = 51 ∨ c = 52 ∨ c = 53 ∨ c = 54 ∨ c = 55 ∨ c = 56 ∨ c = 57 := by omega
      rcases cs with rfl | rfl | rfl | rfl | rfl | rfl | rfl | rfl | rfl | rfl <;> rfl
    rw [List.map_cons, List.map_cons, v, chr_id fun d hd => h d (List.mem_cons_of_mem _ hd)]
theorem zp_back {z : Str} {W : Nat} (h : NumText.AllDigits z.cps.toList) (l : z.length = W) (w : 1 ≤ W) : z = zpad W ((NumText.digitsVal z.cps.toList : Nat) : Int) := by
  refine Xtx.str_eq ?_
  rw [zp_list]
  obtain ⟨k, e⟩ := dw_48 z.cps.toList
  have t := NumText.toDigits_all z.cps.toList h
  have len := l
  rw [len_cps, e, List.length_append, List.length_replicate] at len
  have nl : TL.numL (NumText.digitsVal z.cps.toList) = (Nat.toDigits 10 (NumText.digitsVal z.cps.toList)).map Char.toNat := rfl
  cases dd : z.cps.toList.dropWhile (· == 48) with
  | nil =>
    rw [dd] at t e len
    have t2 : Nat.toDigits 10 (NumText.digitsVal z.cps.toList) = ['0'] := t
    have n2 : TL.numL (NumText.digitsVal z.cps.toList) = [48] := by rw [nl, t2]; rfl
    rw [n2, e, List.append_nil]
    have kw : k = W := by simpa using len
    obtain ⟨v, rfl⟩ : ∃ v, W = v + 1 := ⟨W - 1, by omega⟩
    rw [kw]
    exact List.replicate_succ'
  | cons c r =>
    rw [dd] at t e len
    have t2 : Nat.toDigits 10 (NumText.digitsVal z.cps.toList) = (c :: r).map Char.ofNat := t
    have ad : NumText.AllDigits (c :: r) := fun d hd => h d (by rw [e]; exact List.mem_append_right _ hd)
    have n2 : TL.numL (NumText.digitsVal z.cps.toList) = c :: r := by rw [nl, t2, chr_id ad]
    rw [n2]
    have k2 : k = W - (c :: r).length := by omega
    rw [← k2]
    exact e
/-- what the figures of a text tell -/
def dv (z : Str) : Int := ((NumText.digitsVal z.cps.toList : Nat) : Int)
theorem dv_zp {W : Nat} {i : Int} (h : 0 ≤ i) : dv (zpad W i) = i := by
  obtain ⟨m, rfl⟩ := Int.eq_ofNat_of_zero_le h
  exact congrArg (fun n : Nat => (n : Int)) (zp_val W m)
/-- what is written of the parts of a day -/
def partsT (y : Int) : Option Int → Option Int → List Str
  | none, _ => [zpad 4 y]
  | some m, none => [zpad 4 y, zpad 2 m]
  | some m, some d => [zpad 4 y, zpad 2 m, zpad 2 d]
theorem day_join {y : Int} {m d : Option Int} (g : Good y m d) : dayText y m d = Txt.join "-" (partsT y m d) := by
  rw [TL.join_eq]
  unfold dayText partsT
  cases m with
  | none =>
    have : d = none := g.2.2
    subst this
    rfl
  | some i =>
    cases d with
    | none => rfl
    | some j =>
      show zpad 4 y ++ "-" ++ zpad 2 i ++ "-" ++ zpad 2 j = zpad 4 y ++ "-" ++ (zpad 2 i ++ "-" ++ zpad 2 j)
      simp only [Str.append_assoc]
/-- a part that is written so -/
structure Pt (W : Nat) (z : Str) (i : Int) : Prop where
  ad : NumText.AllDigits z.cps.toList
  len : z.length = W
  val : dv z = i
theorem pt_zp {W : Nat} {i : Int} (h0 : 0 ≤ i) (h : nDig i ≤ W) : Pt W (zpad W i) i := by
  obtain ⟨m, rfl⟩ := Int.eq_ofNat_of_zero_le h0
  rw [nDig_num] at h
  exact ⟨zp_digits W m, zp_len h, dv_zp (by omega)⟩
theorem prt_not {W : Nat} {z : Str} {i : Int} (p : Pt W z i) {c : Nat} (h : c < 48 ∨ 57 < c) : c ∉ z.cps.toList := fun m => by
  have := p.ad c m
  omega
theorem good_parts {y : Int} {m d : Option Int} (g : Good y m d) : Pt 4 (zpad 4 y) y ∧ (∀ i, m = some i → Pt 2 (zpad 2 i) i) ∧ ∀ i, d = some i → Pt 2 (zpad 2 i) i := by
  obtain ⟨a, b⟩ := small_month g
  have g1 := g.1
  have g2 := g.2.1
  exact ⟨pt_zp (by omega) (nDig_le ⟨by omega, by omega⟩), fun i e => pt_zp (a i e).1 (nDig_le2 (a i e).1 (a i e).2), fun i e => pt_zp (b i e).1 (nDig_le2 (b i e).1 (b i e).2)⟩
theorem day_split {y : Int} {m d : Option Int} (g : Good y m d) : Txt.split (dayText y m d) "-" = partsT y m d := by
  rw [day_join g]
  obtain ⟨p1, p2, p3⟩ := good_parts g
  refine TL.split_join tl_da (by decide +kernel) ?_ ?_
  · unfold partsT
    split <;> simp
  · intro p hp
    unfold partsT at hp
    cases m with
    | none =>
      rw [List.mem_singleton.mp hp]
      exact prt_not p1 (.inl (by decide))
    | some i =>
      cases d with
      | none =>
        rcases List.mem_cons.mp hp with z | z
        · rw [z]; exact prt_not p1 (.inl (by decide))
        · rw [List.mem_singleton.mp z]; exact prt_not (p2 i rfl) (.inl (by decide))
      | some j =>
        rcases List.mem_cons.mp hp with z | z
        · rw [z]; exact prt_not p1 (.inl (by decide))
        · rcases List.mem_cons.mp z with z | z
          · rw [z]; exact prt_not (p2 i rfl) (.inl (by decide))
          · rw [List.mem_singleton.mp z]; exact prt_not (p3 j rfl) (.inl (by decide))
/-- the numbers that the parts write, in three places -/
def three : List Str → Int × Option Int × Option Int
  | [a] => (dv a, none, none)
  | [a, b] => (dv a, some (dv b), none)
  | [a, b, c] => (dv a, some (dv b), some (dv c))
  | _ => (0, none, none)
theorem three_of {y : Int} {m d : Option Int} (g : Good y m d) : three (partsT y m d) = (y, m, d) := by
  obtain ⟨p1, p2, p3⟩ := good_parts g
  unfold partsT
  cases m with
  | none =>
    have : d = none := g.2.2
    subst this
    simp only [three, p1.val]
  | some i =>
    cases d with
    | none => simp only [three, p1.val, (p2 i rfl).val]
    | some j => simp only [three, p1.val, (p2 i rfl).val, (p3 j rfl).val]
theorem parts_len {y : Int} {m d : Option Int} : 1 ≤ (partsT y m d).length ∧ (partsT y m d).length ≤ 3 := by
  unfold partsT
  split <;> simp
theorem parts_lens {y : Int} {m d : Option Int} (g : Good y m d) : (partsT y m d).map (fun p => (p.length : Int)) = ([4, 2, 2] : List Int).take (partsT y m d).length ∧ ∀ p ∈ partsT y m d, NumText.AllDigits p.cps.toList ∧ 1 ≤ p.length ∧ p.length ≤ 4 := by
  obtain ⟨p1, p2, p3⟩ := good_parts g
  have l1 := p1.len
  unfold partsT
  cases m with
  | none =>
    refine ⟨by simp [l1], fun p hp => ?_⟩
    rw [List.mem_singleton.mp hp]
    exact ⟨p1.ad, by omega, by omega⟩
  | some i =>
    have q2 := p2 i rfl
    have l2 := q2.len
    cases d with
    | none =>
      refine ⟨by simp [l1, l2], fun p hp => ?_⟩
      rcases List.mem_cons.mp hp with z | z
      · rw [z]; exact ⟨p1.ad, by omega, by omega⟩
      · rw [List.mem_singleton.mp z]; exact ⟨q2.ad, by omega, by omega⟩
    | some j =>
      have q3 := p3 j rfl
      have l3 := q3.len
      refine ⟨by simp [l1, l2, l3], fun p hp => ?_⟩
      rcases List.mem_cons.mp hp with z | z
      · rw [z]; exact ⟨p1.ad, by omega, by omega⟩
      · rcases List.mem_cons.mp z with z | z
        · rw [z]; exact ⟨q2.ad, by omega, by omega⟩
        · rw [List.mem_singleton.mp z]; exact ⟨q3.ad, by omega, by omega⟩
/-- parts of these lengths, of figures, whose numbers make a day: the text is its text -/
theorem day_back {x : Str} {ps : List Str} (e : Txt.split x "-" = ps) (h1 : 1 ≤ ps.length) (h3 : ps.length ≤ 3) (ad : ∀ p ∈ ps, NumText.AllDigits p.cps.toList) (ll : ps.map (fun p => (p.length : Int)) = ([4, 2, 2] : List Int).take ps.length)
    (g : Good (three ps).1 (three ps).2.1 (three ps).2.2) : x = dayText (three ps).1 (three ps).2.1 (three ps).2.2 := by
  have j := join_split (x := x) (y := "-") (by rw [tl_da]; simp) (by decide +kernel)
  rw [e] at j
  rw [day_join g, ← j]
  congr 1
  match ps, h1, h3, ad, ll with
  | [a], _, _, ad, ll =>
    have la : a.length = 4 := by
      simp at ll
      omega
    have := zp_back (ad a (by simp)) la (by decide)
    simp only [three, partsT, dv]
    rw [← this]
  | [a, b], _, _, ad, ll =>
    have la : a.length = 4 ∧ b.length = 2 := by
      simp at ll
      omega
    have t1 := zp_back (ad a (by simp)) la.1 (by decide)
    have t2 := zp_back (ad b (by simp)) la.2 (by decide)
    simp only [three, partsT, dv]
    rw [← t1, ← t2]
  | [a, b, c], _, _, ad, ll =>
    have la : a.length = 4 ∧ b.length = 2 ∧ c.length = 2 := by
      simp at ll
      omega
    have t1 := zp_back (ad a (by simp)) la.1 (by decide)
    have t2 := zp_back (ad b (by simp)) la.2.1 (by decide)
    have t3 := zp_back (ad c (by simp)) la.2.2 (by decide)
    simp only [three, partsT, dv]
    rw [← t1, ← t2, ← t3]
/-! lengths -/
theorem num_zp {i : Int} (h0 : 0 ≤ i) (h1 : i < 60) : Pt 2 (zpad 2 i) i := pt_zp h0 (nDig_le2 h0 (by omega))
theorem nT_ad {m : Int} (h : 0 ≤ m) : NumText.AllDigits (nT m).cps.toList := by
  obtain ⟨n, rfl⟩ := Int.eq_ofNat_of_zero_le h
  have := nT_list n
  rw [this]
  exact TL.numL_digits n
theorem nT_dv {m : Int} (h : 0 ≤ m) : dv (nT m) = m := by
  obtain ⟨n, rfl⟩ := Int.eq_ofNat_of_zero_le h
  unfold dv
  rw [nT_list n, TL.numL_val]
theorem ad_not {z : Str} (h : NumText.AllDigits z.cps.toList) {c : Nat} (hc : c < 48 ∨ 57 < c) : c ∉ z.cps.toList := fun m => by
  have := h c m
  omega
theorem len_parts {c : Int} (h0 : 0 ≤ c) (h1 : c ≤ 359999) : Txt.partition (lenText c) ":" = (nT (c / 60), (":" : Str), zpad 2 (c % 60)) :=
  TL.partition_app tl_c1 (ad_not (nT_ad (by omega)) (.inr (by decide)))
theorem len_split {c : Int} (h0 : 0 ≤ c) (h1 : c ≤ 359999) : Txt.split (lenText c) ":" = [nT (c / 60), zpad 2 (c % 60)] := by
  have e : lenText c = Txt.join ":" [nT (c / 60), zpad 2 (c % 60)] := by rw [TL.join_eq]; rfl
  rw [e]
  refine TL.split_join tl_c1 (by decide +kernel) (by simp) fun p hp => ?_
  rcases List.mem_cons.mp hp with z | z
  · rw [z]; exact ad_not (nT_ad (by omega)) (.inr (by decide))
  · rw [List.mem_singleton.mp z]; exact prt_not (num_zp (by omega) (by omega)) (.inr (by decide))
theorem len_num {c : Int} (h0 : 0 ≤ c) (h1 : c ≤ 359999) : numP (nT (c / 60)) = some (c / 60) := by
  obtain ⟨m, hm⟩ : ∃ m : Nat, c / 60 = (m : Int) := ⟨(c / 60).toNat, by omega⟩
  rw [hm]
  exact num_of (by omega)
theorem nT_4 {c : Int} (h0 : 0 ≤ c) (h1 : c ≤ 359999) : 1 ≤ (nT (c / 60)).length ∧ (nT (c / 60)).length ≤ 4 := by
  have t : Tiny (c / 60) := ⟨by omega, by omega⟩
  have l := nDig_le t
  rw [len_text t.1]
  refine ⟨?_, l⟩
  obtain ⟨m, hm⟩ : ∃ m : Nat, c / 60 = (m : Int) := ⟨(c / 60).toNat, by omega⟩
  rw [hm, nDig_num]
  exact List.length_pos_iff.mpr (TL.numL_ne m)
end
end K69
set_option Elab.async false
set_option linter.all false
set_option maxRecDepth 100000
set_option maxHeartbeats 4000000
set_option pp.maxSteps 400
set_option pp.deepTerms false
namespace K69
open PySem PySem.Spec PyProof.Rows L2
open Xk Az Xtx
section
variable {P : Program} {w : World} {K : PySem.W.Frag} {mg : Str → Option Value} {base : Heap} {C CL : Addr}
theorem fitN' {n : Nat} (h : n ≤ 50000) : n ≤ sizeLine := Nat.le_trans h (by decide)
def nV : Option Int → V
  | none => .non
  | some n => .int n
def spFig : Sp := fun vs H Q _ => ∃ (z : Str) (a b : Int), vs = [.str z, .int a, .int b] ∧ z.length ≤ 50000 ∧ ∀ H', L2.Same H H' → Q (.bl (ofT (.str z) figs a b)) H'
def spNum : Sp := fun vs H Q _ => ∃ (z : Str), vs = [.str z] ∧ z.length ≤ 50000 ∧ ∀ H', L2.Same H H' → Q (nV (numP z)) H'
def spDi (C : Addr) : Sp := fun vs H Q _ => ∃ (x : Str), vs = [.str x] ∧ x.length ≤ 50000 ∧ (∀ y m d, Good y m d → x = dayText y m d → ∀ o H', L2.Same H H' → DayAt C H' o y m d → Q (.ref o) H') ∧
  ((∀ y m d, Good y m d → x ≠ dayText y m d) → ∀ H', L2.Same H H' → Q .non H')
def spLi (CL : Addr) : Sp := fun vs H Q _ => ∃ (x : Str), vs = [.str x] ∧ x.length ≤ 50000 ∧ (∀ c, 0 ≤ c → c ≤ 359999 → x = lenText c → ∀ o H', L2.Same H H' → LenAt CL H' o c → Q (.ref o) H') ∧
  ((∀ c, 0 ≤ c → c ≤ 359999 → x ≠ lenText c) → ∀ H', L2.Same H H' → Q .non H')
theorem part_len (x y : Str) : (Txt.partition x y).1.length ≤ x.length ∧ (Txt.partition x y).2.2.length ≤ x.length := by
  rcases partition_whole x y with ⟨h, _⟩ | ⟨i, h, a, _⟩
  · rw [h]
    exact ⟨Nat.le_refl _, Nat.zero_le _⟩
  · rw [h]
    have l : ∀ i j, (Builtin.Str.strSub x i j).length ≤ x.length := fun i j => by
      rw [len_cps, len_cps, StrLaws.strSub_toList, List.length_take, List.length_drop]
      omega
    exact ⟨l _ _, l _ _⟩
theorem spl_len {S : List Nat} (hS : S ≠ []) : ∀ (n k : Nat) (acc L : List Nat), L.length ≤ n → (TL.spl S k acc L).length ≤ L.length + 1 ∧ ∀ p ∈ TL.spl S k acc L, p.length ≤ acc.length + L.length
  | _, k, acc, [], _ => by
    rw [TL.spl_nil]
    refine ⟨by simp, fun p hp => ?_⟩
    rw [List.mem_singleton.mp hp]
    simp
  | n + 1, k, acc, c :: r, h => by
    rw [List.length_cons] at h ⊢
    cases k with
    | succ k =>
      rw [TL.spl_pass, List.drop_succ_cons, ← TL.spl_pass S k]
      obtain ⟨a, b⟩ := spl_len hS n k acc r (by omega)
      exact ⟨by omega, fun p hp => by have := b p hp; omega⟩
    | zero =>
      cases hp : TL.pre S (c :: r) with
      | true =>
        rw [TL.spl_hit hp, List.length_cons]
        obtain ⟨a, b⟩ := spl_len hS n (S.length - 1) [] r (by omega)
        refine ⟨by omega, fun p hq => ?_⟩
        rcases List.mem_cons.mp hq with z | z
        · rw [z]; omega
        · have := b p z
          simp only [List.length_nil] at this
          omega
      | false =>
        rw [TL.spl_miss hp]
        obtain ⟨a, b⟩ := spl_len hS n 0 (acc ++ [c]) r (by omega)
        refine ⟨by omega, fun p hq => ?_⟩
        have := b p hq
        rw [List.length_append] at this
        simp only [List.length_cons, List.length_nil] at this
        omega
theorem split_len {x y : Str} (hy : TL.tl y ≠ []) (hk : y.cps.all (· < 256) = true) : (Txt.split x y).length ≤ x.length + 1 ∧ ∀ p ∈ Txt.split x y, p.length ≤ x.length := by
  have e := TL.split_spl x y hy (TL.kind_ok hk)
  obtain ⟨a, b⟩ := spl_len hy _ 0 [] (TL.tl x) (Nat.le_refl _)
  rw [← e, List.length_map] at a
  refine ⟨by rw [len_cps x]; exact a, fun p hp => ?_⟩
  have := b (TL.tl p) (by rw [← e]; exact List.mem_map_of_mem hp)
  rw [len_cps p, len_cps x]
  simpa using this
theorem da_ne : TL.tl "-" ≠ [] := by rw [tl_da]; simp
theorem da_256 : ("-" : Str).cps.all (· < 256) = true := by decide +kernel
theorem c1_ne : TL.tl ":" ≠ [] := by rw [tl_c1]; simp
theorem c1_256 : (":" : Str).cps.all (· < 256) = true := by decide +kernel
theorem split_pos {x y : Str} (hy : TL.tl y ≠ []) (hk : y.cps.all (· < 256) = true) : 1 ≤ (Txt.split x y).length := by
  have e := TL.split_spl x y hy (TL.kind_ok hk)
  have n := spl_ne (TL.tl y) _ 0 [] (TL.tl x) (Nat.le_refl _)
  rw [← e] at n
  rcases Nat.eq_zero_or_pos (Txt.split x y).length with z | z
  · rw [List.eq_nil_of_length_eq_zero z] at n
    exact absurd rfl n
  · exact z
theorem ok_fig {f : Addr} {fd : FuncData} {e : Ex} (D : Df K mg "are_figures" ["text", "least", "most"] sAreFigures f fd) (T : Txt K mg C CL e) (cO : Ca P w K mg base 1 "is_text_of" ["thing", "signs", "least", "most"] (spTextOf K)) : FnOk P w K mg base CX0 2 f fd ["text", "least", "most"] spFig := by
  obtain ⟨_, gKEY_PARTS⟩ := T.cKEY_PARTS
  obtain ⟨_, gLONGEST_WORD⟩ := T.cLONGEST_WORD
  obtain ⟨_, gLONGEST_CODE⟩ := T.cLONGEST_CODE
  obtain ⟨_, gMOST_PLAYERS⟩ := T.cMOST_PLAYERS
  obtain ⟨_, gLAST_YEAR⟩ := T.cLAST_YEAR
  obtain ⟨_, gMONTHS⟩ := T.cMONTHS
  obtain ⟨_, gFEBRUARY⟩ := T.cFEBRUARY
  obtain ⟨_, gMOST_SECONDS⟩ := T.cMOST_SECONDS
  obtain ⟨_, gSHORTEST_TONGUE⟩ := T.cSHORTEST_TONGUE
  obtain ⟨_, gLONGEST_TONGUE⟩ := T.cLONGEST_TONGUE
  obtain ⟨_, gLONGEST_TEXT⟩ := T.cLONGEST_TEXT
  obtain ⟨_, gMOST_FIGURES⟩ := T.cMOST_FIGURES
  obtain ⟨_, gDAY_PARTS⟩ := T.cDAY_PARTS
  obtain ⟨_, gYEAR_FIGURES⟩ := T.cYEAR_FIGURES
  obtain ⟨_, gSMALL_LETTERS⟩ := T.cSMALL_LETTERS
  obtain ⟨_, gTEXT_SIGNS⟩ := T.cTEXT_SIGNS
  obtain ⟨_, gFIGURES⟩ := T.cFIGURES
  obtain ⟨_, gCODE_SIGNS⟩ := T.cCODE_SIGNS
  refine D.fn.ok scAreFigures (fun vs H Q E h => ?_) (fun cdv A outer s H vs Q E hr h => ?_)
  · obtain ⟨z, a, b, rfl, lz, q⟩ := h
    rfl
  · obtain ⟨z, a, b, rfl, lz, q⟩ := h
    refine ⟨_, (pss_one (ps_ret (pe_ca cO hr (by decide) (by rfl) (pa_cons (pv 0) (pa_cons (pe_glob (v := .str figs) (by rfl) gFIGURES ⟨_, rfl⟩) (pa_cons (pv 1) (pa_cons (pv 2) pa_nil))))))), ?_⟩
    exact ⟨_, rfl, _, rfl, _, rfl, .str z, .str z, figs, a, b, rfl, .str z, fun x e => by cases e; exact lz, fun H1 s1 => q H1 s1⟩
theorem ok_num {f : Addr} {fd : FuncData} {e : Ex} (D : Df K mg "number_in" ["text"] sNumberIn f fd) (T : Txt K mg C CL e) (cFg : Ca P w K mg base 2 "are_figures" ["text", "least", "most"] spFig) : FnOk P w K mg base CX0 3 f fd ["text"] spNum := by
  obtain ⟨_, gKEY_PARTS⟩ := T.cKEY_PARTS
  obtain ⟨_, gLONGEST_WORD⟩ := T.cLONGEST_WORD
  obtain ⟨_, gLONGEST_CODE⟩ := T.cLONGEST_CODE
  obtain ⟨_, gMOST_PLAYERS⟩ := T.cMOST_PLAYERS
  obtain ⟨_, gLAST_YEAR⟩ := T.cLAST_YEAR
  obtain ⟨_, gMONTHS⟩ := T.cMONTHS
  obtain ⟨_, gFEBRUARY⟩ := T.cFEBRUARY
  obtain ⟨_, gMOST_SECONDS⟩ := T.cMOST_SECONDS
  obtain ⟨_, gSHORTEST_TONGUE⟩ := T.cSHORTEST_TONGUE
  obtain ⟨_, gLONGEST_TONGUE⟩ := T.cLONGEST_TONGUE
  obtain ⟨_, gLONGEST_TEXT⟩ := T.cLONGEST_TEXT
  obtain ⟨_, gMOST_FIGURES⟩ := T.cMOST_FIGURES
  obtain ⟨_, gDAY_PARTS⟩ := T.cDAY_PARTS
  obtain ⟨_, gYEAR_FIGURES⟩ := T.cYEAR_FIGURES
  obtain ⟨_, gSMALL_LETTERS⟩ := T.cSMALL_LETTERS
  obtain ⟨_, gTEXT_SIGNS⟩ := T.cTEXT_SIGNS
  obtain ⟨_, gFIGURES⟩ := T.cFIGURES
  obtain ⟨_, gCODE_SIGNS⟩ := T.cCODE_SIGNS
  refine D.fn.ok scNumberIn (fun vs H Q E h => ?_) (fun cdv A outer s H vs Q E hr h => ?_)
  · obtain ⟨z, rfl, lz, q⟩ := h
    rfl
  · obtain ⟨z, rfl, lz, q⟩ := h
    refine ⟨_, (pss_cons (ps_if (PW.pt (pw_or (pt_not (pt_val (pe_ca cFg hr (by decide) (by rfl) (pa_cons (pv 0) (pa_cons pe_int (pa_cons (pe_glob (v := .int 30) (by rfl) gMOST_FIGURES ⟨_, rfl⟩) pa_nil)))))) (pw_or1 (PW.pt (pw_and (pt_cmpR op_eq (pe_ix ix_str (pv 0) pe_int (fun _ _ => rfl)) pe_str (nomark _)) (pw_and1 (pt_cmpR op_ne (pv 0) pe_str (nomark _)))))))) (pss_one (ps_ret pe_non)) pss_nil)
      (pss_one (ps_ret (pe_callTy call_int_str (by rfl) T.int (by decide +kernel) (pa_cons (pv 0) pa_nil))))), ?_⟩
    refine ⟨_, rfl, z, 1, 30, rfl, lz, fun H1 s1 => ⟨_, rfl, ?_⟩⟩
    have qn : numP z = none → Q .non H1 := fun e => by
      have w := q H1 s1
      rw [e] at w
      exact w
    cases c : ofT (.str z) figs 1 30 with
    | false => exact iteT (qn (by unfold numP; rw [c]; rfl))
    | true =>
      obtain ⟨l1, l30, ck⟩ := ofT_iff.mp c
      have ne : z.cps.toList ≠ [] := fun e => by rw [len_cps, e] at l1; exact absurd l1 (by decide)
      obtain ⟨c0, e0⟩ : ∃ d, z.cps.toList.head? = some d := by
        cases e : z.cps.toList.head? with
        | none => exact absurd (List.head?_eq_none_iff.mp e) ne
        | some d => exact ⟨d, rfl⟩
      have a0 : atI z.cps.toList 0 = some c0 := atI_nat (j := 0) (by rw [← List.head?_eq_getElem?]; exact e0)
      have fit := fitN' lz
      have d0 : decide (V.str ⟨#[c0]⟩ = V.str "0") = decide (c0 = 48) := by
        rw [decide_eq_decide]
        constructor
        · intro e
          injection e with e
          have := congrArg (fun s : Str => s.cps.toList) e
          rw [show ("0" : Str).cps.toList = [48] by decide +kernel] at this
          simpa using this
        · intro e
          rw [e]
          exact congrArg V.str (Xtx.str_eq (by decide +kernel))
      have yes : ¬ (z.cps.toList.head? = some 48 ∧ z ≠ "0") → PySem.intText? z = some ((NumText.digitsVal z.cps.toList : Nat) : Int) ∧ Q (.int ((NumText.digitsVal z.cps.toList : Nat) : Int)) H1 := fun h => by
        have w := q H1 s1
        unfold numP at w
        rw [if_pos c, if_neg h] at w
        exact ⟨intText_digits ((chk_figs z).mp ck) ne (by omega), w⟩
      refine iteF ⟨_, rfl, z, 0, c0, rfl, rfl, fit, a0, rfl, _, rfl, ?_⟩
      rw [d0]
      by_cases h0 : c0 = 48
      · rw [decide_eq_true h0]
        refine iteT ⟨_, rfl, rfl, _, rfl, ?_⟩
        by_cases h1 : z = "0"
        · have e1 : (!decide (V.str z = V.str "0")) = false := by rw [h1]; rfl
          rw [e1]
          obtain ⟨g1, g2⟩ := yes fun x => x.2 h1
          exact iteF ⟨_, rfl, z, _, rfl, g1, by omega, g2⟩
        · have e1 : (!decide (V.str z = V.str "0")) = true := by rw [decide_eq_false (fun e => h1 (by injection e))]; rfl
          rw [e1]
          refine iteT (qn ?_)
          unfold numP
          rw [if_pos c, if_pos ⟨by rw [e0, h0], h1⟩]
      · rw [decide_eq_false h0]
        obtain ⟨g1, g2⟩ := yes fun x => by
          rw [e0] at x
          exact h0 (Option.some.inj x.1)
        exact iteF ⟨_, rfl, z, _, rfl, g1, by omega, g2⟩
/-- Day, made -/
structure Dc (P : Program) (w : World) (K : PySem.W.Frag) (mg : Str → Option Value) (base : Heap) (C : Addr) (f : Addr) (fd : FuncData) : Prop where
  mm : Mk K C f
  ok : FnOk P w K mg base CX0 4 f fd ["self", "year", "month", "day"] (spInit C)
  bd : Binds K fd ["self", "year", "month", "day"] []
/-- Length, made -/
structure Lc (P : Program) (w : World) (K : PySem.W.Frag) (mg : Str → Option Value) (base : Heap) (CL : Addr) (f : Addr) (fd : FuncData) : Prop where
  mm : Mk K CL f
  ok : FnOk P w K mg base CX0 3 f fd ["self", "seconds"] (spLen CL)
  bd : Binds K fd ["self", "seconds"] []
/-- what str and repr of a Day, a Length ask -/
structure Sh (P : Program) (w : World) (K : PySem.W.Frag) (mg : Str → Option Value) (base : Heap) (C : Addr) (n : Nat) (fS fR : Addr) (fdS fdR : FuncData) (spS spR : Sp) : Prop where
  hs : PySem.W.findIn K (.ref C) "__str__" = some (some (.ref fS))
  sf : PySem.W.isFn K (.ref fS) = true
  okS : FnOk P w K mg base CX0 n fS fdS ["self"] spS
  bdS : Binds K fdS ["self"] []
  hr : PySem.W.findIn K (.ref C) "__repr__" = some (some (.ref fR))
  rf : PySem.W.isFn K (.ref fR) = true
  okR : FnOk P w K mg base CX0 1 fR fdR ["self"] spR
  bdR : Binds K fdR ["self"] []
theorem ok_di {f : Addr} {fd : FuncData} {e : Ex} {fG fS fR : Addr} {fdG fdS fdR : FuncData} (D : Df K mg "day_in" ["text"] sDayIn f fd) (T : Txt K mg C CL e) (G : Dc P w K mg base C fG fdG) (O : Sh P w K mg base C 1 fS fR fdS fdR (spStrD C) (spReprD C)) (cFg : Ca P w K mg base 2 "are_figures" ["text", "least", "most"] spFig) (cM : Ca P w K mg base 3 "makes_day" ["year", "month", "day"] (spMakes K)) : FnOk P w K mg base CX0 6 f fd ["text"] (spDi C) := by
  obtain ⟨_, gKEY_PARTS⟩ := T.cKEY_PARTS
  obtain ⟨_, gLONGEST_WORD⟩ := T.cLONGEST_WORD
  obtain ⟨_, gLONGEST_CODE⟩ := T.cLONGEST_CODE
  obtain ⟨_, gMOST_PLAYERS⟩ := T.cMOST_PLAYERS
  obtain ⟨_, gLAST_YEAR⟩ := T.cLAST_YEAR
  obtain ⟨_, gMONTHS⟩ := T.cMONTHS
  obtain ⟨_, gFEBRUARY⟩ := T.cFEBRUARY
  obtain ⟨_, gMOST_SECONDS⟩ := T.cMOST_SECONDS
  obtain ⟨_, gSHORTEST_TONGUE⟩ := T.cSHORTEST_TONGUE
  obtain ⟨_, gLONGEST_TONGUE⟩ := T.cLONGEST_TONGUE
  obtain ⟨_, gLONGEST_TEXT⟩ := T.cLONGEST_TEXT
  obtain ⟨_, gMOST_FIGURES⟩ := T.cMOST_FIGURES
  obtain ⟨_, gDAY_PARTS⟩ := T.cDAY_PARTS
  obtain ⟨_, gYEAR_FIGURES⟩ := T.cYEAR_FIGURES
  obtain ⟨_, gSMALL_LETTERS⟩ := T.cSMALL_LETTERS
  obtain ⟨_, gTEXT_SIGNS⟩ := T.cTEXT_SIGNS
  obtain ⟨_, gFIGURES⟩ := T.cFIGURES
  obtain ⟨_, gCODE_SIGNS⟩ := T.cCODE_SIGNS
  refine D.fn.ok scDayIn (fun vs H Q E h => ?_) (fun cdv A outer s H vs Q E hr h => ?_)
  · obtain ⟨x, rfl, lx, q1, q2⟩ := h
    rfl
  · obtain ⟨x, rfl, lx, q1, q2⟩ := h
    refine ⟨_, (pss_cons (ps_set (i := 1) scDayIn.nd rfl (.inl rfl) (pe_m1 F.slot_str_split F.type_str_split mt_split (pv 0) pe_str))
      (pss_cons (ps_if (PW.pt (pw_or (pt_cmpR op_gt (pe_callB call_len_seq (by rfl) T.len PySem.boot_len (pa_cons (pv 1) pa_nil)) (pe_glob (v := .int 3) (by rfl) gDAY_PARTS ⟨_, rfl⟩) (nomark _)) (pw_or1 (pt_not (pt_val (pe_callB (cr_all (by rfl)) (by rfl) T.all (by decide +kernel) (pa_cons (pe_lc (own := [("part", 5)]) (g := gName 5) (tt := tYes) (te := tCall spFig [] E0 (tCons (tVar 5) (tCons (tC (.int 1)) (tCons (tC (.int 4)) tNil)))) (by rfl) scDayIn.nd (pi_list (pv 1)) (blkOk_by (own := [("part", 5)]) (N := ["text", "parts", "year", "month", "day", "part"]) (sc := defScope sDayIn) (by decide +kernel)) (fun _ _ _ _ _ => pg_name (i := 5) scDayIn.nd rfl (.inl rfl)) (fun _ _ _ _ _ => pts_nil) (fun _ _ _ _ _ => pe_ca cFg hr (by decide) (by rfl) (pa_cons (pv 5) (pa_cons pe_int (pa_cons (pe_glob (v := .int 4) (by rfl) gYEAR_FIGURES ⟨_, rfl⟩) pa_nil))))) pa_nil))))))) (pss_one (ps_ret pe_non)) pss_nil)
      (pss_cons (ps_asg (pe_op op_cat (pe_lc (own := [("part", 5)]) (g := gName 5) (tt := tYes) (by rfl) scDayIn.nd (pi_list (pv 1)) (blkOk_by (own := [("part", 5)]) (N := ["text", "parts", "year", "month", "day", "part"]) (sc := defScope sDayIn) (by decide +kernel)) (fun _ _ _ _ _ => pg_name (i := 5) scDayIn.nd rfl (.inl rfl)) (fun _ _ _ _ _ => pts_nil) (fun _ _ _ _ _ => pe_callTy call_int_str (by rfl) T.int (by decide +kernel) (pa_cons (pv 5) pa_nil))) (pe_op op_rep (pe_lst (pa_cons pe_non pa_nil)) (pe_op op_sub (pe_glob (v := .int 3) (by rfl) gDAY_PARTS ⟨_, rfl⟩) (pe_callB call_len_seq (by rfl) T.len PySem.boot_len (pa_cons (pv 1) pa_nil))))) (pg_lst (by rfl) (pgs_cons (pg_name (i := 2) scDayIn.nd rfl (.inl rfl)) (pgs_cons (pg_name (i := 3) scDayIn.nd rfl (.inl rfl)) (pgs_cons (pg_name (i := 4) scDayIn.nd rfl (.inl rfl)) pgs_nil)))))
      (pss_one (ps_ret (pe_ifExp (PW.pt (pw_and (pt_val (pe_ca cM hr (by decide) (by rfl) (pa_cons (pv 2) (pa_cons (pv 3) (pa_cons (pv 4) pa_nil))))) (pw_and1 (pt_cmpR op_eq (pe_callTy (cr_strO O.hs O.sf (hr.mono (by decide)) O.okS O.bdS) (by rfl) T.str (by decide +kernel) (pa_cons (pe_make G.mm G.ok (hr.mono (by decide)) (by rfl) T.mgC G.bd .nil pass0 (pa_cons (pv 2) (pa_cons (pv 3) (pa_cons (pv 4) pa_nil)))) pa_nil)) (pv 0) (nomark _))))) (pe_make G.mm G.ok (hr.mono (by decide)) (by rfl) T.mgC G.bd .nil pass0 (pa_cons (pv 2) (pa_cons (pv 3) (pa_cons (pv 4) pa_nil)))) pe_non)))))), ?_⟩
    obtain ⟨pl1, pl2⟩ := split_len (x := x) da_ne da_256
    have pp := split_pos (x := x) da_ne da_256
    refine ⟨_, rfl, ⟨_, rfl⟩, x, "-", rfl, rfl, rfl, Nat.le_trans (show _ ≤ 60000 by omega) (by decide), fun S nS => ?_⟩
    have sS := same_upd nS (o := .lst ((Txt.split x "-").map V.str))
    have eS : (L2.upd H S (.lst ((Txt.split x "-").map V.str))) S = some (.lst ((Txt.split x "-").map V.str)) := upd_same
    generalize L2.upd H S (.lst ((Txt.split x "-").map V.str)) = H1 at sS eS ⊢
    generalize hps : Txt.split x "-" = ps at pl1 pl2 pp eS ⊢
    have fw : ∀ y m d, Good y m d → x = dayText y m d → ps = partsT y m d := fun y m d g e => by rw [← hps, e, day_split g]
    refine ⟨_, rfl, S, _, rfl, .inl (SqL.of eS), _, _, rfl, rfl, _, rfl, ?_⟩
    rw [List.length_map]
    by_cases c3 : (3 : Int) < (ps.length : Int)
    · rw [decide_eq_true c3]
      refine iteT (q2 (fun y m d g e => ?_) H1 sS)
      have := (parts_len (y := y) (m := m) (d := d)).2
      rw [← fw y m d g e] at this
      omega
    rw [decide_eq_false c3]
    refine iteF ⟨_, rfl, S, rfl, ⟨_, SqL.of eS⟩, fun W nW => ?_⟩
    refine lc_list (K := K) (a := S) (xs := ps.map V.str) (fun i Hi => L2.Same H1 Hi ∧ Hi W = some (.lst (((ps.take i).map fun p => ofT (.str p) figs 1 4).map V.bl))) ⟨same_upd nW, upd_same⟩ (fun i Hi _ z => SqL.of (z.1 _ _ eS)) ?_ ?_
    · rintro i v Hi hv ⟨sm, eW⟩
      rw [List.getElem?_map] at hv
      obtain ⟨p, ep, rfl⟩ := Option.map_eq_some_iff.mp hv
      have il := (List.getElem?_eq_some_iff.mp ep).1
      have pl := pl2 p (List.mem_of_getElem? ep)
      refine ⟨rfl, ?_⟩
      unfold tYes
      refine iteT ⟨_, rfl, p, 1, 4, rfl, by omega, fun H2 s2 => ⟨_, s2 _ _ eW, ?_, fun b o e => ?_, ?_⟩⟩
      · rw [List.length_map, List.length_map, List.length_take]
        exact Nat.lt_of_le_of_lt (show min i ps.length ≤ 50001 by omega) (by decide)
      · rw [upd_ne (ne_of_none e nW)]
        exact s2 _ _ (sm _ _ e)
      · rw [upd_same, List.take_add_one, ep]
        simp
    rintro H2 ⟨s2, eW⟩
    rw [List.take_of_length_le (by rw [List.length_map]; exact Nat.le_refl _)] at eW
    refine ⟨W, _, rfl, SqL.of eW, _, rfl, ?_⟩
    have s02 := sS.trans s2
    have eS2 := s2 _ _ eS
    cases ca : (ps.map fun p => ofT (.str p) figs 1 4).all id with
    | false =>
      refine iteT (q2 (fun y m d g e => ?_) H2 s02)
      have a := (parts_lens g).2
      rw [← fw y m d g e] at a
      rw [Bool.eq_false_iff] at ca
      refine ca (List.all_eq_true.mpr fun b hb => ?_)
      obtain ⟨p, hp, rfl⟩ := List.mem_map.mp hb
      obtain ⟨a1, a2, a3⟩ := a p hp
      exact ofT_iff.mpr ⟨by omega, by omega, (chk_figs _).mpr a1⟩
    | true =>
      have al : ∀ p ∈ ps, NumText.AllDigits p.cps.toList ∧ 1 ≤ p.length ∧ p.length ≤ 4 := fun p hp => by
        have := ofT_iff.mp (List.all_eq_true.mp ca _ (List.mem_map_of_mem hp))
        exact ⟨(chk_figs _).mp this.2.2, by omega, by omega⟩
      refine iteF ⟨_, rfl, S, rfl, ⟨_, SqL.of eS2⟩, fun V1 nV => ?_⟩
      refine lc_list (K := K) (a := S) (xs := ps.map V.str) (fun i Hi => L2.Same H2 Hi ∧ Hi V1 = some (.lst ((ps.take i).map fun p => V.int (dv p)))) ⟨same_upd nV, upd_same⟩ (fun i Hi _ z => SqL.of (z.1 _ _ eS2)) ?_ ?_
      · rintro i v Hi hv ⟨sm, eV⟩
        rw [List.getElem?_map] at hv
        obtain ⟨p, ep, rfl⟩ := Option.map_eq_some_iff.mp hv
        have il := (List.getElem?_eq_some_iff.mp ep).1
        obtain ⟨a1, a2, a3⟩ := al p (List.mem_of_getElem? ep)
        refine ⟨rfl, ?_⟩
        unfold tYes
        refine iteT ⟨_, rfl, p, _, rfl, intText_digits a1 (fun z => by rw [len_cps, z] at a2; exact absurd a2 (by decide)) (by omega), by omega, ?_⟩
        refine ⟨_, eV, ?_, fun b o e => ?_, ?_⟩
        · rw [List.length_map, List.length_take]
          exact Nat.lt_of_le_of_lt (show min i ps.length ≤ 50001 by omega) (by decide)
        · rw [upd_ne (ne_of_none e nV)]
          exact sm _ _ e
        · rw [upd_same, List.take_add_one, ep]
          simp [dv]
      rintro H3 ⟨s3, eV⟩
      rw [List.take_of_length_le (by rw [List.length_map]; exact Nat.le_refl _)] at eV
      have s03 := s02.trans s3
      have eS3 := s3 _ _ eS2
      refine ⟨(by show 1 ≤ sizeLine; decide), fun N1 n1 => ?_⟩
      have sl := same_upd n1 (o := .lst [.non])
      refine ⟨_, rfl, S, _, rfl, .inl (SqL.of (sl _ _ eS3)), 3, _, rfl, rfl, N1, _, _, rfl, rfl, upd_same, ?_, ?_, ?_, fun N2 n2 => ?_⟩
      · rw [List.length_map]; omega
      · rw [List.length_map]; omega
      · rw [List.length_map]
        exact Nat.le_trans (show 1 * _ ≤ 100 by omega) (by decide)
      refine ⟨V1, N2, ps.map fun p => V.int (dv p), _, rfl, rfl, ?_, upd_same, ?_, fun M nM => ?_⟩
      · rw [upd_ne (ne_of_none (sl _ _ eV) n2)]
        exact sl _ _ eV
      · rw [List.length_map, List.length_map]
        exact Nat.le_trans (show _ ≤ 100 by simp; omega) (by decide)
      have e3 : (ps.map fun p => V.int (dv p)) ++ (List.replicate ((3 : Int) - (((ps.map V.str).length : Nat) : Int)).toNat [V.non]).flatten = [.int (three ps).1, oV (three ps).2.1, oV (three ps).2.2] := by
        match ps, pp, c3 with
        | [a], _, _ => rfl
        | [a, b], _, _ => rfl
        | [a, b, c], _, _ => rfl
        | _ :: _ :: _ :: _ :: r, _, c3 => exact absurd (show (3 : Int) < _ by simp only [List.length_cons]; omega) c3
      rw [e3]
      have s04 : L2.Same H (L2.upd (L2.upd (L2.upd H3 N1 (.lst [.non])) N2 (.lst (List.replicate ((3 : Int) - (((ps.map V.str).length : Nat) : Int)).toNat [V.non]).flatten)) M (.lst [.int (three ps).1, oV (three ps).2.1, oV (three ps).2.2])) :=
        ((s03.trans sl).trans (same_upd n2)).trans (same_upd nM)
      have eM : (L2.upd (L2.upd (L2.upd H3 N1 (.lst [.non])) N2 (.lst (List.replicate ((3 : Int) - (((ps.map V.str).length : Nat) : Int)).toNat [V.non]).flatten)) M (.lst [.int (three ps).1, oV (three ps).2.1, oV (three ps).2.2])) M = some (.lst [.int (three ps).1, oV (three ps).2.1, oV (three ps).2.2]) := upd_same
      generalize L2.upd (L2.upd (L2.upd H3 N1 (.lst [.non])) N2 (.lst (List.replicate ((3 : Int) - (((ps.map V.str).length : Nat) : Int)).toNat [V.non]).flatten)) M (.lst [.int (three ps).1, oV (three ps).2.1, oV (three ps).2.2]) = H4 at s04 eM ⊢
      have tf : ∀ y m d, Good y m d → x = dayText y m d → three ps = (y, m, d) := fun y m d g e => by rw [fw y m d g e, three_of g]
      obtain ⟨⟨y, m, d⟩, ht⟩ : ∃ t, three ps = t := ⟨_, rfl⟩
      rw [ht] at eM tf
      dsimp only at eM tf
      refine ⟨M, _, rfl, SqL.of eM, rfl, _, _, rfl, _, _, rfl, _, _, rfl, rfl, ?_⟩
      refine ⟨_, rfl, _, rfl, _, rfl, .int y, oV m, oV d, .int y, oD m, oD d, rfl, .int y, oV_dz m, oV_dz d, _, rfl, ?_⟩
      cases cg : goodV (.int y) (oV m) (oV d) with
      | false =>
        refine iteF (q2 (fun y2 m2 d2 g e => ?_) H4 s04)
        have := tf y2 m2 d2 g e
        cases this
        rw [good_iff.mpr g] at cg
        cases cg
      | true =>
        have g := good_iff.mp cg
        have made : ∀ {Hx : Hp} {o dx : Addr}, Hx o = none → Hx dx = none → L2.Same Hx (L2.upd (L2.upd Hx dx (.own o)) o (.ins C dx [])) := fun {Hx o dx} no nd b z e => by
          rw [upd_ne (ne_of_none e no), upd_ne (ne_of_none e nd)]
          exact e
        refine iteT ⟨_, rfl, _, rfl, _, rfl, fun o dx no nd ne => ⟨o, dx, y, m, d, rfl, g, upd_same, fun H5 keep al => ⟨rfl, ?_⟩⟩⟩
        have s5 : L2.Same H4 H5 := fun b z e => keep b z (made no nd b z e) (ne_of_none e no)
        obtain ⟨dy, eo⟩ := id al
        refine ⟨o, dy, _, rfl, eo, o, y, m, d, rfl, al, g, _, rfl, _, rfl, rfl, _, rfl, ?_⟩
        have es : decide (V.str (dayText y m d) = V.str x) = decide (x = dayText y m d) := decide_eq_decide.mpr ⟨fun z => (V.str.inj z).symm, fun z => by rw [z]⟩
        rw [es]
        have s05 := s04.trans s5
        by_cases ex : x = dayText y m d
        · rw [decide_eq_true ex]
          refine iteT ⟨_, rfl, _, rfl, _, rfl, fun o dx no nd ne => ⟨o, dx, y, m, d, rfl, g, upd_same, fun H6 keep al => ⟨rfl, ?_⟩⟩⟩
          exact q1 y m d g ex o H6 (s05.trans fun b z e => keep b z (made no nd b z e) (ne_of_none e no)) al
        · rw [decide_eq_false ex]
          refine iteF (q2 (fun y2 m2 d2 g2 e => ?_) H5 s05)
          have := tf y2 m2 d2 g2 e
          cases this
          exact ex e
theorem ok_li {f : Addr} {fd : FuncData} {e : Ex} {gG gS gR : Addr} {gdG gdS gdR : FuncData} (D : Df K mg "length_in" ["text"] sLengthIn f fd) (T : Txt K mg C CL e) (GL : Lc P w K mg base CL gG gdG) (OL : Sh P w K mg base CL 2 gS gR gdS gdR (spStrL CL) (spReprL CL)) (cFg : Ca P w K mg base 2 "are_figures" ["text", "least", "most"] spFig) (cNu : Ca P w K mg base 3 "number_in" ["text"] spNum) (cI : Ca P w K mg base 2 "is_within" ["thing", "least", "most"] (spWithin K)) : FnOk P w K mg base CX0 5 f fd ["text"] (spLi CL) := by
  obtain ⟨_, gKEY_PARTS⟩ := T.cKEY_PARTS
  obtain ⟨_, gLONGEST_WORD⟩ := T.cLONGEST_WORD
  obtain ⟨_, gLONGEST_CODE⟩ := T.cLONGEST_CODE
  obtain ⟨_, gMOST_PLAYERS⟩ := T.cMOST_PLAYERS
  obtain ⟨_, gLAST_YEAR⟩ := T.cLAST_YEAR
  obtain ⟨_, gMONTHS⟩ := T.cMONTHS
  obtain ⟨_, gFEBRUARY⟩ := T.cFEBRUARY
  obtain ⟨_, gMOST_SECONDS⟩ := T.cMOST_SECONDS
  obtain ⟨_, gSHORTEST_TONGUE⟩ := T.cSHORTEST_TONGUE
  obtain ⟨_, gLONGEST_TONGUE⟩ := T.cLONGEST_TONGUE
  obtain ⟨_, gLONGEST_TEXT⟩ := T.cLONGEST_TEXT
  obtain ⟨_, gMOST_FIGURES⟩ := T.cMOST_FIGURES
  obtain ⟨_, gDAY_PARTS⟩ := T.cDAY_PARTS
  obtain ⟨_, gYEAR_FIGURES⟩ := T.cYEAR_FIGURES
  obtain ⟨_, gSMALL_LETTERS⟩ := T.cSMALL_LETTERS
  obtain ⟨_, gTEXT_SIGNS⟩ := T.cTEXT_SIGNS
  obtain ⟨_, gFIGURES⟩ := T.cFIGURES
  obtain ⟨_, gCODE_SIGNS⟩ := T.cCODE_SIGNS
  refine D.fn.ok scLengthIn (fun vs H Q E h => ?_) (fun cdv A outer s H vs Q E hr h => ?_)
  · obtain ⟨x, rfl, lx, q1, q2⟩ := h
    rfl
  · obtain ⟨x, rfl, lx, q1, q2⟩ := h
    refine ⟨_, (pss_cons (ps_asg (pe_partition (pv 0) pe_str) (pg_tup (by rfl) (pgs_cons (pg_name (i := 1) scLengthIn.nd rfl (.inl rfl)) (pgs_cons (pg_name (i := 2) scLengthIn.nd rfl (.inl rfl)) (pgs_cons (pg_name (i := 3) scLengthIn.nd rfl (.inl rfl)) pgs_nil)))))
      (pss_cons (ps_set (i := 4) scLengthIn.nd rfl (.inl rfl) (pe_ca cNu hr (by decide) (by rfl) (pa_cons (pv 1) pa_nil)))
      (pss_cons (ps_if (PW.pt (pw_or (pt_cmpR op_isN (pv 4) pe_non (nomark _)) (pw_or1 (pt_not (pt_val (pe_ca cFg hr (by decide) (by rfl) (pa_cons (pv 3) (pa_cons pe_int (pa_cons pe_int pa_nil))))))))) (pss_one (ps_ret pe_non)) pss_nil)
      (pss_cons (ps_set (i := 5) scLengthIn.nd rfl (.inl rfl) (pe_op op_add (pe_op op_mul (pv 4) pe_int) (pe_callTy call_int_str (by rfl) T.int (by decide +kernel) (pa_cons (pv 3) pa_nil))))
      (pss_one (ps_ret (pe_ifExp (PW.pt (pw_and (pt_val (pe_ca cI hr (by decide) (by rfl) (pa_cons (pv 5) (pa_cons pe_int (pa_cons (pe_glob (v := .int 359999) (by rfl) gMOST_SECONDS ⟨_, rfl⟩) pa_nil))))) (pw_and1 (pt_cmpR op_eq (pe_callTy (cr_strO OL.hs OL.sf (hr.mono (by decide)) OL.okS OL.bdS) (by rfl) T.str (by decide +kernel) (pa_cons (pe_make GL.mm GL.ok (hr.mono (by decide)) (by rfl) T.mgL GL.bd .nil pass0 (pa_cons (pv 5) pa_nil)) pa_nil)) (pv 0) (nomark _))))) (pe_make GL.mm GL.ok (hr.mono (by decide)) (by rfl) T.mgL GL.bd .nil pass0 (pa_cons (pv 5) pa_nil)) pe_non))))))), ?_⟩
    obtain ⟨pl1, pl2⟩ := part_len x ":"
    have fw0 : ∀ c, 0 ≤ c → c ≤ 359999 → x = lenText c → Txt.partition x ":" = (nT (c / 60), (":" : Str), zpad 2 (c % 60)) := fun c h0 h1 e => by rw [e, len_parts h0 h1]
    refine ⟨_, rfl, ⟨_, rfl⟩, x, ":", rfl, rfl, rfl, fitN' lx, fun p np => ?_⟩
    have sp := same_upd np (o := .tup [.str (Txt.partition x ":").1, .str (Txt.partition x ":").2.1, .str (Txt.partition x ":").2.2])
    refine ⟨p, _, rfl, SqT.of upd_same, rfl, _, _, rfl, _, _, rfl, _, _, rfl, rfl, ?_⟩
    generalize L2.upd H p (.tup [.str (Txt.partition x ":").1, .str (Txt.partition x ":").2.1, .str (Txt.partition x ":").2.2]) = H1 at sp ⊢
    obtain ⟨⟨a, b, r⟩, ht⟩ : ∃ t, Txt.partition x ":" = t := ⟨_, rfl⟩
    rw [ht] at fw0 pl1 pl2 ⊢
    dsimp only at pl1 pl2 ⊢
    have fw : ∀ c, 0 ≤ c → c ≤ 359999 → x = lenText c → a = nT (c / 60) ∧ r = zpad 2 (c % 60) := fun c h0 h1 e => by
      have := fw0 c h0 h1 e
      cases this
      exact ⟨rfl, rfl⟩
    refine ⟨_, rfl, a, rfl, by omega, fun H2 s2 => ?_⟩
    have s02 := sp.trans s2
    cases hn : numP a with
    | none =>
      refine ⟨_, rfl, rfl, _, rfl, iteT (q2 (fun c h0 h1 e => ?_) H2 s02)⟩
      rw [(fw c h0 h1 e).1, len_num h0 h1] at hn
      cases hn
    | some n =>
      obtain ⟨m, rfl, m1, ea⟩ := num_back hn
      refine ⟨_, rfl, rfl, _, rfl, iteF ⟨_, rfl, r, 2, 2, rfl, by omega, fun H3 s3 => ⟨_, rfl, ?_⟩⟩⟩
      have s03 := s02.trans s3
      cases c2 : ofT (.str r) figs 2 2 with
      | false =>
        refine iteT (q2 (fun c h0 h1 e => ?_) H3 s03)
        have p := num_zp (i := c % 60) (by omega) (by omega)
        rw [(fw c h0 h1 e).2, Bool.eq_false_iff] at c2
        have := p.len
        exact c2 (ofT_iff.mpr ⟨by omega, by omega, (chk_figs _).mpr p.ad⟩)
      | true =>
        obtain ⟨r1, r2, rc⟩ := ofT_iff.mp c2
        have ad := (chk_figs _).mp rc
        have val : ∀ c, 0 ≤ c → c ≤ 359999 → x = lenText c → (m : Int) * 60 + dv r = c := fun c h0 h1 e => by
          obtain ⟨g1, g2⟩ := fw c h0 h1 e
          rw [g1, len_num h0 h1] at hn
          have hm := Option.some.inj hn
          have p := num_zp (i := c % 60) (by omega) (by omega)
          rw [g2, p.val, ← hm]
          omega
        refine iteF ⟨_, rfl, m, 60, rfl, rfl, ?_, _, rfl, r, _, rfl, intText_digits ad (fun z => by rw [len_cps, z] at r1; exact absurd r1 (by decide)) (by omega), by omega, _, _, rfl, rfl, ?_⟩
        · exact .inr ⟨by decide, by decide⟩
        have hv : ((NumText.digitsVal r.cps.toList : Nat) : Int) = dv r := rfl
        obtain ⟨c, ht2⟩ : ∃ c, (m : Int) * 60 + dv r = c := ⟨_, rfl⟩
        rw [ht2] at val
        have hb : (fun i j : Int => V.int (i + j)) ((m : Int) * 60) ((NumText.digitsVal r.cps.toList : Nat) : Int) = V.int c := by rw [← ht2]; rfl
        rw [hb]
        refine ⟨_, rfl, .int c, .int c, 0, 359999, rfl, .int c, _, rfl, ?_⟩
        cases cw : wiV (.int c) 0 359999 with
        | false =>
          refine iteF (q2 (fun c2 h0 h1 e => ?_) H3 s03)
          have := val c2 h0 h1 e
          subst this
          have : wiV (.int c) 0 359999 = true := by simp [wiV, h0, h1]
          rw [cw] at this
          cases this
        | true =>
          obtain ⟨h0, h1⟩ : 0 ≤ c ∧ c ≤ 359999 := by simpa [wiV] using cw
          have made : ∀ {Hx : Hp} {o dx : Addr}, Hx o = none → Hx dx = none → L2.Same Hx (L2.upd (L2.upd Hx dx (.own o)) o (.ins CL dx [])) := fun {Hx o dx} no nd b z e => by
            rw [upd_ne (ne_of_none e no), upd_ne (ne_of_none e nd)]
            exact e
          refine iteT ⟨_, rfl, fun o dx no nd ne => ⟨o, dx, c, rfl, upd_same, h0, h1, fun H5 keep al => ⟨rfl, ?_⟩⟩⟩
          have s5 : L2.Same H3 H5 := fun b z e => keep b z (made no nd b z e) (ne_of_none e no)
          obtain ⟨dy, eo⟩ := id al
          refine ⟨o, dy, _, rfl, eo, o, c, rfl, al, h0, h1, _, rfl, _, rfl, rfl, _, rfl, ?_⟩
          have es : decide (V.str (lenText c) = V.str x) = decide (x = lenText c) := decide_eq_decide.mpr ⟨fun z => (V.str.inj z).symm, fun z => by rw [z]⟩
          rw [es]
          have s05 := s03.trans s5
          by_cases ex : x = lenText c
          · rw [decide_eq_true ex]
            refine iteT ⟨_, rfl, fun o dx no nd ne => ⟨o, dx, c, rfl, upd_same, h0, h1, fun H6 keep al => ⟨rfl, ?_⟩⟩⟩
            exact q1 c h0 h1 ex o H6 (s05.trans fun b z e => keep b z (made no nd b z e) (ne_of_none e no)) al
          · rw [decide_eq_false ex]
            refine iteF (q2 (fun c2 h02 h12 e => ?_) H5 s05)
            have := val c2 h02 h12 e
            subst this
            exact ex e
end
end K69
set_option Elab.async false
set_option linter.all false
set_option maxRecDepth 100000
set_option maxHeartbeats 4000000
set_option pp.maxSteps 400
set_option pp.deepTerms false
namespace K69
open PySem PySem.Spec PyProof.Rows L2
open Xk Az Xtx
section
variable {P : Program} {w : World} {K : PySem.W.Frag} {mg : Str → Option Value} {base : Heap} {C CL : Addr}
/-- nothing but blanks between: no word is empty -/
def gd : Bool → List Nat → Bool
  | p, [] => !p
  | p, c :: r => if c = 32 then !p && gd true r else gd false r
theorem tl_b1 : TL.tl " " = [32] := by decide +kernel
theorem spl_gd : ∀ (L acc : List Nat), ([] ∉ TL.spl [32] 0 acc L) ↔ gd acc.isEmpty L = true
  | [], acc => by
    rw [TL.spl_nil]
    cases acc <;> simp [gd]
  | c :: r, acc => by
    unfold gd
    by_cases h : c = 32
    · rw [TL.spl_hit (by rw [h]; rfl), if_pos h, List.mem_cons, not_or, Bool.and_eq_true]
      have ih := spl_gd r []
      have e : TL.spl [32] ([32].length - 1) [] r = TL.spl [32] 0 [] r := rfl
      rw [e, ih]
      cases acc <;> simp
    · rw [TL.spl_miss (TL.pre_of_head [] r h), if_neg h]
      have ih := spl_gd r (acc ++ [c])
      have e : (acc ++ [c]).isEmpty = false := by cases acc <;> rfl
      rw [ih, e]
/-- no two blanks side by side -/
def ND (l : List Nat) : Prop := ∀ a b, l ≠ a ++ 32 :: 32 :: b
theorem gd_iff : ∀ L : List Nat, (gd false L = true ↔ L.getLast? ≠ some 32 ∧ ND L) ∧ (gd true L = true ↔ L ≠ [] ∧ L.head? ≠ some 32 ∧ L.getLast? ≠ some 32 ∧ ND L)
  | [] => by
    refine ⟨?_, ?_⟩
    · simp only [gd, Bool.not_false, true_iff]
      exact ⟨by simp, fun a b e => by cases a <;> cases e⟩
    · simp [gd]
  | c :: r => by
    obtain ⟨i1, i2⟩ := gd_iff r
    have la : r ≠ [] → (c :: r).getLast? = r.getLast? := fun h => by
      cases r with
      | nil => exact absurd rfl h
      | cons a t => rfl
    by_cases h : c = 32
    · subst h
      refine ⟨?_, by simp [gd]⟩
      simp only [gd, if_true, Bool.not_false, Bool.true_and]
      rw [i2]
      constructor
      · rintro ⟨ne, hd, l, nd⟩
        refine ⟨by rw [la ne]; exact l, fun a b e => ?_⟩
        cases a with
        | nil => exact hd (by rw [(List.cons.inj e).2]; rfl)
        | cons x a => exact nd a b (List.cons.inj e).2
      · rintro ⟨l, nd⟩
        have ne : r ≠ [] := fun z => l (by rw [z]; rfl)
        rw [la ne] at l
        refine ⟨ne, fun z => ?_, l, fun a b e => nd (32 :: a) b (by rw [e]; rfl)⟩
        cases r with
        | nil => exact ne rfl
        | cons a t =>
          have : a = 32 := Option.some.inj z
          exact nd [] t (by rw [this]; rfl)
    · have nd1 : ND (c :: r) ↔ ND r := ⟨fun nd a b e => nd (c :: a) b (by rw [e]; rfl), fun nd a b e => by
        cases a with
        | nil => exact h (List.cons.inj e).1
        | cons x a => exact nd a b (List.cons.inj e).2⟩
      have l1 : (c :: r).getLast? ≠ some 32 ↔ r.getLast? ≠ some 32 := by
        cases r with
        | nil => simp [h]
        | cons a t => exact Iff.rfl
      have e1 : ∀ p, gd p (c :: r) = gd false r := fun p => by simp only [gd, if_neg h]
      refine ⟨by rw [e1, i1, l1, nd1], ?_⟩
      rw [e1, i1, l1, nd1]
      simp [h]
theorem bl_len (L : List Nat) : (L.dropWhile bl).length ≤ L.length := (List.dropWhile_suffix bl).length_le
theorem bl_32 (r : List Nat) : (32 :: r).dropWhile bl = r.dropWhile bl := by
  rw [List.dropWhile_cons, bl_iff]
  rfl
theorem bare_nil {l : List Nat} (h : l.head? ≠ some 32) : l.dropWhile bl = l := by
  cases l with
  | nil => rfl
  | cons a r =>
    have ha : a ≠ 32 := fun z => h (by rw [z]; rfl)
    rw [List.dropWhile_cons, bl_iff, decide_eq_false ha]
    rfl
theorem sk_iff {z : Str} : sk z = true ↔ z.cps.toList.head? ≠ some 32 ∧ z.cps.toList.getLast? ≠ some 32 := by
  unfold sk
  rw [decide_eq_true_iff]
  constructor
  · intro e
    have e2 := congrArg (fun s : Str => s.cps.toList) (V.str.inj e)
    simp only [st_list] at e2
    have hd : z.cps.toList.head? ≠ some 32 := fun h => by
      cases l : z.cps.toList with
      | nil => rw [l] at h; cases h
      | cons a r =>
        rw [l] at h e2
        have : a = 32 := Option.some.inj h
        subst this
        have n := congrArg List.length e2
        rw [bl_32, List.length_reverse, List.length_cons] at n
        have n1 := bl_len (r.dropWhile bl).reverse
        rw [List.length_reverse] at n1
        have n2 := bl_len r
        omega
    refine ⟨hd, fun h => ?_⟩
    rw [bare_nil hd] at e2
    rw [← List.head?_reverse] at h
    cases l : z.cps.toList.reverse with
    | nil => rw [l] at h; cases h
    | cons a r =>
      rw [l] at h e2
      have : a = 32 := Option.some.inj h
      subst this
      have n := congrArg List.length e2
      have n0 := congrArg List.length l
      rw [List.length_reverse, List.length_cons] at n0
      rw [bl_32, List.length_reverse] at n
      have n1 := bl_len r
      omega
  · rintro ⟨hd, la⟩
    refine congrArg V.str (Xtx.str_eq ?_)
    rw [st_list, bare_nil hd, bare_nil (by rw [List.head?_reverse]; exact la), List.reverse_reverse]
theorem db_iff {z : Str} : db z = false ↔ ND z.cps.toList := by
  have e2 : ("  " : Str).cps.toList = [32, 32] := by decide +kernel
  have l2 : ("  " : Str).length = 2 := by decide +kernel
  unfold db
  rcases StrLaws.occ_head z "  " 1 (Nat.le_refl _) with ⟨e, no⟩ | ⟨i, r, e, ⟨hl, ha⟩, _⟩
  · rw [e]
    refine ⟨fun _ a b w => ?_, fun _ => rfl⟩
    refine no a.length ⟨?_, ?_⟩
    · rw [l2, len_cps, w]
      simp
    · rw [StrLaws.subAt_eq, beq_iff_eq, e2, l2, w]
      simp
  · rw [e]
    refine ⟨(fun w => nomatch w), fun nd => ?_⟩
    exfalso
    rw [StrLaws.subAt_eq, beq_iff_eq] at ha
    rw [e2, l2] at ha
    refine nd (z.cps.toList.take i) ((z.cps.toList.drop i).drop 2) ?_
    have w := List.take_append_drop 2 (z.cps.toList.drop i)
    rw [ha] at w
    have w2 := List.take_append_drop i z.cps.toList
    rw [← w] at w2
    exact w2.symm
/-- no empty word, said in two ways -/
theorem words_iff {z : Str} (h : 1 ≤ z.length) : (("" : Str) ∉ Txt.split z " ") ↔ (sk z = true ∧ db z = false) := by
  have sp := TL.split_spl z " " (by rw [tl_b1]; simp) (TL.kind_ok (by decide +kernel))
  rw [tl_b1] at sp
  have m : (("" : Str) ∉ Txt.split z " ") ↔ ([] ∉ TL.spl [32] 0 [] (TL.tl z)) := by
    rw [← sp, List.mem_map]
    refine not_congr ⟨fun h => ⟨"", h, rfl⟩, ?_⟩
    rintro ⟨y, hy, e⟩
    have : y = "" := Xtx.str_eq (by rw [show (("" : Str)).cps.toList = [] from rfl]; exact e)
    rw [← this]; exact hy
  have ne : z.cps.toList ≠ [] := fun e => by rw [len_cps, e] at h; exact absurd h (by decide)
  rw [m, spl_gd, show List.isEmpty ([] : List Nat) = true from rfl, (gd_iff _).2, sk_iff, db_iff]
  exact ⟨fun ⟨_, a, b, c⟩ => ⟨⟨a, b⟩, c⟩, fun ⟨⟨a, b⟩, c⟩ => ⟨ne, a, b, c⟩⟩
/-- the name that a text writes, if any -/
def nmF (x : Str) : Option (Str × Str) := if nmD (.tuple [.str (Txt.partition x ":").1, .str (Txt.partition x ":").2.2]) = true then some ((Txt.partition x ":").1, (Txt.partition x ":").2.2) else none
def NmR (H : Hp) (v : V) : Option (Str × Str) → Prop
  | none => v = .non
  | some n => ∃ t, v = .ref t ∧ H t = some (.tup [.str n.1, .str n.2])
def R0 (C : Addr) (x : Str) (H : Hp) (v : V) : Prop := (v = .non ∧ ∀ y m d, Good y m d → x ≠ dayText y m d) ∨ ∃ o y m d, v = .ref o ∧ Good y m d ∧ x = dayText y m d ∧ DayAt C H o y m d
def R1 (CL : Addr) (x : Str) (H : Hp) (v : V) : Prop := (v = .non ∧ ∀ c, 0 ≤ c → c ≤ 359999 → x ≠ lenText c) ∨ ∃ o c, v = .ref o ∧ 0 ≤ c ∧ c ≤ 359999 ∧ x = lenText c ∧ LenAt CL H o c
def R2 (x : Str) (H : Hp) (v : V) : Prop := NmR H v (nmF x)
theorem R0_v {C : Addr} : ∀ x H v, R0 C x H v → v = .non ∨ ∃ o, v = .ref o := fun _ _ _ h => h.elim (fun h => .inl h.1) (fun ⟨o, _, _, _, e, _⟩ => .inr ⟨o, e⟩)
theorem R1_v {CL : Addr} : ∀ x H v, R1 CL x H v → v = .non ∨ ∃ o, v = .ref o := fun _ _ _ h => h.elim (fun h => .inl h.1) (fun ⟨o, _, e, _⟩ => .inr ⟨o, e⟩)
theorem R2_v : ∀ x H v, R2 x H v → v = .non ∨ ∃ o, v = .ref o := fun x H v h => by
  unfold R2 at h
  cases e : nmF x with
  | none => rw [e] at h; exact .inl h
  | some n => rw [e] at h; obtain ⟨t, e, _⟩ := h; exact .inr ⟨t, e⟩
/-- a reader's promise -/
def spR (R : Str → Hp → V → Prop) : Sp := fun vs H Q _ => ∃ (x : Str), vs = [.str x] ∧ x.length ≤ 50000 ∧ ∀ v H', L2.Same H H' → R x H' v → Q v H'
def spNi : Sp := fun vs H Q _ => ∃ (x : Str), vs = [.str x] ∧ x.length ≤ 50000 ∧ ∀ v H', L2.Same H H' → R2 x H' v → Q v H'
theorem di_R {vs : List V} {H : Hp} {Q : VK} {E : XK} (h : spR (R0 C) vs H Q E) : spDi C vs H Q E := by
  obtain ⟨x, rfl, lx, q⟩ := h
  exact ⟨x, rfl, lx, fun y m d g e o H' s da => q _ H' s (.inr ⟨o, y, m, d, rfl, g, e, da⟩), fun no H' s => q _ H' s (.inl ⟨rfl, no⟩)⟩
theorem li_R {vs : List V} {H : Hp} {Q : VK} {E : XK} (h : spR (R1 CL) vs H Q E) : spLi CL vs H Q E := by
  obtain ⟨x, rfl, lx, q⟩ := h
  exact ⟨x, rfl, lx, fun c h0 h1 e o H' s da => q _ H' s (.inr ⟨o, c, rfl, h0, h1, e, da⟩), fun no H' s => q _ H' s (.inl ⟨rfl, no⟩)⟩
def lawSigns : Str := "abcdefghijklmnopqrstuvwxyzABCDEFGHIJKLMNOPQRSTUVWXYZ0123456789'-."
theorem ND.pre {l r : List Nat} (h : ND (l ++ r)) : ND l := fun a b e => h a (b ++ r) (by rw [e]; simp)
theorem ND.suf {l r : List Nat} (h : ND (l ++ r)) : ND r := fun a b e => h (l ++ a) b (by rw [e]; simp)
/-- a text that a name may have -/
structure OkT (x : Str) : Prop where
  sg : ∀ c ∈ x.cps.toList, c ∈ signs.cps.toList
  ne : x.cps.toList ≠ []
  hd : x.cps.toList.head? ≠ some 32
  la : x.cps.toList.getLast? ≠ some 32
  nd : ND x.cps.toList
  l40 : x.length ≤ 40
structure NmOk (n : Str × Str) : Prop where
  tl : n.1.length = 2 ∨ n.1.length = 3
  ts : ∀ c ∈ n.1.cps.toList, c ∈ small.cps.toList
  tx : OkT n.2
/-- words of signs, put together with blanks -/
theorem words_ok : ∀ (ws : List Str), ws ≠ [] → (∀ w ∈ ws, w.cps.toList ≠ [] ∧ ∀ c ∈ w.cps.toList, c ∈ lawSigns.cps.toList) →
    (∀ c ∈ (Str.join (s1 32) ws).cps.toList, c ∈ signs.cps.toList) ∧ (Str.join (s1 32) ws).cps.toList ≠ [] ∧ (Str.join (s1 32) ws).cps.toList.head? ≠ some 32 ∧ ND (Str.join (s1 32) ws).cps.toList
  | [], h, _ => absurd rfl h
  | [w], _, hw => by
    obtain ⟨h1, h2⟩ := hw w List.mem_cons_self
    have no : (32 : Nat) ∉ w.cps.toList := fun m => absurd (h2 32 m) (by decide +kernel)
    have su : ∀ c ∈ lawSigns.cps.toList, c ∈ signs.cps.toList := by decide +kernel
    refine ⟨fun c hc => su c (h2 c hc), h1, fun e => no (List.mem_of_mem_head? e), fun a b e => no ?_⟩
    show 32 ∈ (Str.join (s1 32) [w]).cps.toList
    rw [e]; simp
  | w :: w2 :: ws, _, hw => by
    obtain ⟨h1, h2⟩ := hw w List.mem_cons_self
    have no : (32 : Nat) ∉ w.cps.toList := fun m => absurd (h2 32 m) (by decide +kernel)
    have su : ∀ c ∈ lawSigns.cps.toList, c ∈ signs.cps.toList := by decide +kernel
    obtain ⟨i1, i2, i3, i4⟩ := words_ok (w2 :: ws) (List.cons_ne_nil _ _) fun z hz => hw z (List.mem_cons_of_mem _ hz)
    rw [Xtx.join_one]
    refine ⟨fun c hc => ?_, by simp, ?_, fun a b e => ?_⟩
    · rcases List.mem_append.mp hc with m | m
      · exact su c (h2 c m)
      · rcases List.mem_cons.mp m with z | z
        · rw [z]; decide +kernel
        · exact i1 c z
    · cases e : w.cps.toList with
      | nil => exact absurd e h1
      | cons c r =>
        rw [e] at no
        exact fun z => no (by rw [List.cons_append] at z; cases z; exact List.mem_cons_self)
    · -- two blanks: the first one is the joint, or behind it
      rcases List.append_eq_append_iff.mp e with ⟨d, e1, e2⟩ | ⟨d, e1, e2⟩
      · cases d with
        | nil =>
          rw [List.nil_append] at e2
          have e3 := (List.cons.inj e2).2
          exact i3 (by rw [e3]; rfl)
        | cons c d =>
          rw [List.cons_append] at e2
          exact i4 d b (List.cons.inj e2).2
      · cases d with
        | nil =>
          rw [List.nil_append] at e2
          have e3 := (List.cons.inj e2).2
          exact i3 (by rw [← e3]; rfl)
        | cons c d =>
          rw [List.cons_append] at e2
          have e3 := (List.cons.inj e2).1
          exact no (by rw [e1, ← e3]; simp)
theorem dw_suf (p : Nat → Bool) : ∀ l : List Nat, ∃ u, l = u ++ l.dropWhile p ∧ ∀ c ∈ u, p c = true
  | [] => ⟨[], rfl, fun c h => by cases h⟩
  | a :: r => by
    rw [List.dropWhile_cons]
    by_cases h : p a = true
    · rw [if_pos h]
      obtain ⟨u, e, hu⟩ := dw_suf p r
      refine ⟨a :: u, by rw [List.cons_append, ← e], fun c hc => ?_⟩
      rcases List.mem_cons.mp hc with z | z
      · rw [z]; exact h
      · exact hu c z
    · rw [if_neg h]
      exact ⟨[], rfl, fun c hc => by cases hc⟩
/-- the end without blanks -/
theorem rs_parts (x : Str) : ∃ v, x.cps.toList = (Txt.rstripChars x " ").cps.toList ++ v ∧ (∀ c ∈ v, c = 32) ∧ (Txt.rstripChars x " ").cps.toList.getLast? ≠ some 32 := by
  obtain ⟨u, e, hu⟩ := dw_suf bl x.cps.toList.reverse
  refine ⟨u.reverse, ?_, fun c hc => ?_, ?_⟩
  · rw [rs_list, ← List.reverse_append, ← e, List.reverse_reverse]
  · have := hu c (List.mem_reverse.mp hc)
    rw [bl_iff] at this
    exact of_decide_eq_true this
  · rw [rs_list, List.getLast?_reverse]
    intro z
    have w := List.head?_dropWhile_not bl x.cps.toList.reverse
    rw [z] at w
    simp [bl_iff] at w
theorem cut_text {x : Str} (h1 : ∀ c ∈ x.cps.toList, c ∈ signs.cps.toList) (h2 : x.cps.toList ≠ []) (h3 : x.cps.toList.head? ≠ some 32) (h4 : ND x.cps.toList) (l : x.length ≤ 40) : OkT (Txt.rstripChars x " ") := by
  obtain ⟨v, e, hv, la⟩ := rs_parts x
  have ne : (Txt.rstripChars x " ").cps.toList ≠ [] := fun z => by
    rw [z, List.nil_append] at e
    cases e2 : x.cps.toList with
    | nil => exact h2 e2
    | cons c r =>
      rw [e2] at e h3
      have hc := hv c (by rw [← e]; exact List.mem_cons_self)
      exact h3 (by rw [hc]; rfl)
  refine ⟨fun c hc => h1 c (by rw [e]; exact List.mem_append_left _ hc), ne, fun z => h3 ?_, la, ND.pre (by rw [← e]; exact h4), ?_⟩
  · rw [e]
    cases e2 : (Txt.rstripChars x " ").cps.toList with
    | nil => exact absurd e2 ne
    | cons c r => rw [e2] at z; exact z
  · have w := congrArg List.length e
    rw [List.length_append] at w
    have lx : x.length = x.cps.toList.length := rfl
    show (Txt.rstripChars x " ").cps.toList.length ≤ 40
    omega
theorem join_cps' : ∀ ys : List Str, (Str.join "" ys).cps.toList = (ys.map fun y => y.cps.toList).flatten
  | [] => rfl
  | [x] => by simp [Str.join]
  | x :: z :: r => by
    show (x ++ "" ++ Str.join "" (z :: r)).cps.toList = _
    rw [Str.cps_append, Array.toList_append, Str.cps_append, Array.toList_append, join_cps' (z :: r)]
    have e0 : (("" : Str)).cps.toList = [] := rfl
    rw [e0, List.append_nil]
    rfl
theorem join_cps (ys : List Str) : (Txt.join "" ys).cps.toList = (ys.map fun y => y.cps.toList).flatten := by
  rw [TL.join_eq]
  exact join_cps' ys
theorem join_len (ys : List Str) : (Txt.join "" ys).length = (ys.map (·.length)).sum := by
  rw [len_cps, join_cps, List.length_flatten, List.map_map]
  congr 1
theorem ones_sum : ∀ ys : List Str, (∀ y ∈ ys, y.length = 1) → (ys.map (·.length)).sum = ys.length
  | [], _ => rfl
  | y :: r, h => by
    rw [List.map_cons, List.sum_cons, h y List.mem_cons_self, ones_sum r (fun z hz => h z (List.mem_cons_of_mem _ hz)), List.length_cons]
    omega
/-- a name, where it stands -/
def NmAt (H : Hp) (v : V) (n : Str × Str) : Prop := ∃ t : Addr, v = .ref t ∧ H t = some (.tup [.str n.1, .str n.2])
def spNm : Sp := fun vs H Q _ => ∃ (h : Addr) (n : Int), vs = [.ref h] ∧ Hand n H h ∧ n + 300 ≤ far ∧ ∀ v nm H', NmAt H' v nm → NmOk nm → Hand (n + 300) H' h → But h H H' → Q v H'
theorem ok_ni {f : Addr} {fd : FuncData} {e : Ex} (D : Df K mg "name_in" ["text"] sNameIn f fd) (T : Txt K mg C CL e) (cIs : Ca P w K mg base 4 "is_name" ["thing"] (spIsName K)) : FnOk P w K mg base CX0 5 f fd ["text"] spNi := by
  refine D.fn.ok scNameIn (fun vs H Q E h => ?_) (fun cdv A outer s H vs Q E hr h => ?_)
  · obtain ⟨x, rfl, lx, q⟩ := h
    rfl
  · obtain ⟨x, rfl, lx, q⟩ := h
    refine ⟨_, (pss_cons (ps_asg (pe_partition (pv 0) pe_str) (pg_tup (by rfl) (pgs_cons (pg_name (i := 1) scNameIn.nd rfl (.inl rfl)) (pgs_cons (pg_name (i := 2) scNameIn.nd rfl (.inl rfl)) (pgs_cons (pg_name (i := 3) scNameIn.nd rfl (.inl rfl)) pgs_nil)))))
      (pss_one (ps_ret (pe_ifExp (pt_val (pe_ca cIs hr (by decide) (by rfl) (pa_cons (pe_tup (pa_cons (pv 1) (pa_cons (pv 3) pa_nil))) pa_nil))) (pe_tup (pa_cons (pv 1) (pa_cons (pv 3) pa_nil))) pe_non)))), ?_⟩
    obtain ⟨pl1, pl2⟩ := part_len x ":"
    refine ⟨_, rfl, ⟨_, rfl⟩, x, ":", rfl, rfl, rfl, fitN' lx, fun p np => ?_⟩
    have sp := same_upd np (o := .tup [.str (Txt.partition x ":").1, .str (Txt.partition x ":").2.1, .str (Txt.partition x ":").2.2])
    refine ⟨p, _, rfl, SqT.of upd_same, rfl, _, _, rfl, _, _, rfl, _, _, rfl, rfl, ?_⟩
    refine ⟨_, rfl, _, rfl, (by show 2 ≤ sizeLine; decide), fun t nt => ?_⟩
    have st := same_upd nt (o := .tup [.str (Txt.partition x ":").1, .str (Txt.partition x ":").2.2])
    refine ⟨.ref t, .tuple [.str (Txt.partition x ":").1, .str (Txt.partition x ":").2.2], rfl, .tup upd_same (.cons (.str _) (.cons (.str _) .nil)), fun ds e y hy => ?_, fun H' s' => ⟨_, rfl, ?_⟩⟩
    · injection e with e
      rw [← e] at hy
      simp only [List.mem_cons, List.not_mem_nil, or_false] at hy
      rcases hy with z | z
      · rw [z]; intro y ey; cases ey; omega
      · rw [z]; intro y ey; cases ey; omega
    have s0 := (sp.trans st).trans s'
    have q2 : ∀ v H2, L2.Same H H2 → NmR H2 v (nmF x) → Q v H2 := q
    unfold nmF at q2
    cases c : nmD (.tuple [.str (Txt.partition x ":").1, .str (Txt.partition x ":").2.2]) with
    | false =>
      rw [c] at q2
      exact iteF (q2 _ _ s0 rfl)
    | true =>
      rw [c] at q2
      refine iteT ⟨_, rfl, _, rfl, (by show 2 ≤ sizeLine; decide), fun t2 nt2 => ?_⟩
      exact q2 _ _ (s0.trans (same_upd nt2)) ⟨t2, rfl, upd_same⟩
def nmT (n : Str × Str) : Str := n.1 ++ ":" ++ n.2
abbrev Ky := Str × Int
def kyT (k : Ky) : Str := k.1 ++ " " ++ nT k.2
structure GoodK (k : Ky) : Prop where
  w1 : 1 ≤ k.1.length
  w8 : k.1.length ≤ 8
  ws : ∀ c ∈ k.1.cps.toList, c ∈ small.cps.toList
  n0 : 0 ≤ k.2
  n1 : k.2 < 10 ^ 30
theorem kyn_len {k : Ky} (h : GoodK k) : (nT k.2).length ≤ 31 := by
  obtain ⟨m, hm⟩ : ∃ m : Nat, k.2 = (m : Int) := ⟨k.2.toNat, by have := h.n0; omega⟩
  have n1 := h.n1
  rw [hm] at n1 ⊢
  rw [len_cps, nT_list]
  exact TL.numL_len (k := 31) (by decide) (by omega)
theorem nm_len {n : Str × Str} (ok : NmOk n) : (nmT n).length ≤ 44 := by
  have l1 := ok.tx.l40
  have l2 := ok.tl
  have l4 : (":" : Str).length = 1 := by decide +kernel
  unfold nmT
  rw [strLen_append, strLen_append, l4]
  omega
theorem ky_len {k : Ky} (h : GoodK k) : (kyT k).length ≤ 40 := by
  have a := kyn_len h
  have b := h.w8
  unfold kyT
  rw [strLen_append, strLen_append, show (" " : Str).length = 1 by decide +kernel]
  omega
theorem nmF_ok {n : Str × Str} (ok : NmOk n) : nmF (nmT n) = some n := by
  have no : (58 : Nat) ∉ TL.tl n.1 := fun m => by
    have := ok.ts 58 m
    revert this
    decide +kernel
  have p : Txt.partition (nmT n) ":" = (n.1, (":" : Str), n.2) := TL.partition_app tl_c1 no
  have a1 : ofT (.str n.1) small 2 3 = true := by
    unfold ofT chk
    simp only [Bool.and_eq_true, decide_eq_true_eq, List.all_eq_true]
    have := ok.tl
    exact ⟨⟨by omega, by omega⟩, fun c hc => ok.ts c hc⟩
  have a2 : ofT (.str n.2) signs 1 40 = true := by
    unfold ofT chk
    simp only [Bool.and_eq_true, decide_eq_true_eq, List.all_eq_true]
    have l := ok.tx.l40
    have ne := ok.tx.ne
    have l1 : 1 ≤ n.2.length := by
      rw [len_cps]
      exact List.length_pos_iff.mpr ne
    exact ⟨⟨by omega, by omega⟩, fun c hc => ok.tx.sg c hc⟩
  have s1 : sk n.2 = true := sk_iff.mpr ⟨ok.tx.hd, ok.tx.la⟩
  have s2 : db n.2 = false := db_iff.mpr ok.tx.nd
  have z : nmD (.tuple [.str n.1, .str n.2]) = true := by
    show (ofT (.str n.1) small 2 3 && (ofT (.str n.2) signs 1 40 && (sk n.2 && !db n.2))) = true
    rw [a1, a2, s1, s2]
    rfl
  unfold nmF
  rw [p, if_pos z]
theorem nmD_ok {n : Str × Str} (ok : NmOk n) : nmD (.tuple [.str n.1, .str n.2]) = true := by
  have h := nmF_ok ok
  have no : (58 : Nat) ∉ TL.tl n.1 := fun m => by
    have := ok.ts 58 m
    revert this
    decide +kernel
  have p : Txt.partition (nmT n) ":" = (n.1, (":" : Str), n.2) := TL.partition_app tl_c1 no
  unfold nmF at h
  rw [p] at h
  by_cases c : nmD (.tuple [.str n.1, .str n.2]) = true
  · exact c
  · rw [if_neg c] at h
    cases h
theorem ky_part {k : Ky} (h : GoodK k) : Txt.partition (kyT k) " " = (k.1, (" " : Str), nT k.2) := TL.partition_app tl_bl (fun m => by
  have := h.ws 32 m
  revert this
  decide +kernel)
theorem ky_num {k : Ky} (h : GoodK k) : numP (nT k.2) = some k.2 := by
  obtain ⟨m, hm⟩ : ∃ m : Nat, k.2 = (m : Int) := ⟨k.2.toNat, by have := h.n0; omega⟩
  have n1 := h.n1
  rw [hm] at n1 ⊢
  exact num_of (by omega)
/-- a key, where it stands -/
def KyAt (H : Hp) (v : V) (k : Ky) : Prop := ∃ t : Addr, v = .ref t ∧ H t = some (.tup [.str k.1, .int k.2])
def spWord (K : PySem.W.Frag) : Sp := fun vs H Q _ => ∃ (v : V) (d : PyData), vs = [v] ∧ Dz K H v d ∧ (∀ x, d = .str x → x.length ≤ 50000) ∧ ∀ H', L2.Same H H' → Q (.bl (ofT d small 1 8)) H'
def wh : PyData → Option Int
  | .int i => some i
  | _ => none
theorem isI_wh {K : PySem.W.Frag} {H : Hp} {v : V} {d : PyData} (h : Dz K H v d) : isI v = (wh d).isSome := by cases h <;> rfl
def nn (d : PyData) : Bool := match wh d with
  | some i => decide (0 ≤ i)
  | none => false
def kyD (d : PyData) : Bool := match d with
  | .tuple [a, b] => ofT a small 1 8 && nn b
  | _ => false
def spIsKeyG (K : PySem.W.Frag) : Sp := fun vs H Q _ => ∃ (v : V) (d : PyData), vs = [v] ∧ Dz K H v d ∧ T2 d ∧ ∀ H', L2.Same H H' → Q (.bl (kyD d)) H'
def spIsKey : Sp := fun vs H Q _ => ∃ (v : V) (k : Ky), vs = [v] ∧ KyAt H v k ∧ GoodK k ∧ ∀ H', L2.Same H H' → Q (.bl true) H'
theorem gk_house {k : Ky} (g : GoodK k) : ofT (.str k.1) small 1 8 = true := ofT_iff.mpr ⟨by have := g.w1; omega, by have := g.w8; omega, chk_iff.mpr g.ws⟩
theorem fn_imp {k : Nat} {f : Addr} {fd : FuncData} {ps : List Str} {CX : CXT} {sp sq : Sp} (F : FnOk P w K mg base CX k f fd ps sp) (h : ∀ vs H Q E, sq vs H Q E → sp vs H Q E) : FnOk P w K mg base CX k f fd ps sq :=
  ⟨fun vs H Q E q => F.len vs H Q E (h _ _ _ _ q), fun A outer s H args us vs Q E hr e0 hb hv q => F.run A outer s H args us vs Q E hr e0 hb hv (h _ _ _ _ q)⟩
theorem fn_or {k : Nat} {f : Addr} {fd : FuncData} {ps : List Str} {CX : CXT} {sp sq : Sp} (F : FnOk P w K mg base CX k f fd ps sp) (G : FnOk P w K mg base CX k f fd ps sq) : FnOk P w K mg base CX k f fd ps (fun vs H Q E => sp vs H Q E ∨ sq vs H Q E) :=
  ⟨fun vs H Q E q => q.elim (F.len vs H Q E) (G.len vs H Q E), fun A outer s H args us vs Q E hr e0 hb hv q => q.elim (F.run A outer s H args us vs Q E hr e0 hb hv) (G.run A outer s H args us vs Q E hr e0 hb hv)⟩
theorem small_not {x : Str} {c : Nat} (h : letts x) (nc : c ∉ small.cps.toList) : c ∉ x.cps.toList := fun m => nc (h c m)
def keyP (x : Str) : Option Ky := match numP (Txt.partition x " ").2.2 with
  | some n => if ofT (.str (Txt.partition x " ").1) small 1 8 = true then some ((Txt.partition x " ").1, n) else none
  | none => none
theorem gk_num {k : Ky} (g : GoodK k) : numP (nT k.2) = some k.2 := ky_num g
theorem key_of {k : Ky} (g : GoodK k) : keyP (kyT k) = some k := by
  unfold keyP
  rw [ky_part g]
  dsimp only
  rw [gk_num g]
  dsimp only
  rw [if_pos (gk_house g)]
theorem good_of {a : Str} {z : Str} {n : Int} (h : numP z = some n) (ha : ofT (.str a) small 1 8 = true) : GoodK (a, n) := by
  obtain ⟨m, rfl, m1, _⟩ := num_back h
  obtain ⟨l1, l8, ck⟩ := ofT_iff.mp ha
  have e : ((10 : Int) ^ 30) = ((10 ^ 30 : Nat) : Int) := by decide
  exact ⟨by show 1 ≤ a.length; omega, by show a.length ≤ 8; omega, chk_iff.mp ck, by show (0 : Int) ≤ (m : Int); omega, by show (m : Int) < 10 ^ 30; rw [e]; exact Int.ofNat_lt.mpr m1⟩
theorem key_good {x : Str} {k : Ky} (h : keyP x = some k) : GoodK k := by
  unfold keyP at h
  split at h
  · rename_i n hn
    by_cases a : ofT (.str (Txt.partition x " ").1) small 1 8 = true
    · rw [if_pos a] at h
      cases h
      exact good_of hn a
    · rw [if_neg a] at h; cases h
  · cases h
theorem nT_free {k : Ky} (g : GoodK k) {c : Nat} (h : c < 48 ∨ 57 < c) : c ∉ (nT k.2).cps.toList := by
  have h0 := g.n0
  obtain ⟨m, hm⟩ : ∃ m : Nat, k.2 = (m : Int) := ⟨k.2.toNat, by omega⟩
  rw [hm, nT_list]
  exact TL.numL_free h
theorem ky_join (k : Ky) : kyT k = Txt.join " " [k.1, nT k.2] := by
  rw [TL.join_eq]
  rfl
theorem ky_parts {k : Ky} (g : GoodK k) : Txt.split (kyT k) " " = [k.1, nT k.2] := by
  rw [ky_join]
  refine TL.split_join tl_bl (by decide +kernel) (by simp) fun p hp => ?_
  rcases List.mem_cons.mp hp with z | z
  · rw [z]; exact small_not g.ws (by decide +kernel)
  · rw [List.mem_singleton.mp z]; exact nT_free g (by omega)
def lkeyP (x : Str) : Option Ky := match Txt.split x " " with
  | [a, b] => match numP b with
    | some n => if ofT (.str a) small 1 8 = true then some (a, n) else none
    | none => none
  | _ => none
theorem lkey_of {k : Ky} (g : GoodK k) : lkeyP (kyT k) = some k := by
  unfold lkeyP
  rw [ky_parts g]
  dsimp only
  rw [gk_num g]
  dsimp only
  rw [if_pos (gk_house g)]
theorem lkey_back {x : Str} {k : Ky} (h : lkeyP x = some k) : GoodK k ∧ x = kyT k := by
  unfold lkeyP at h
  split at h
  · rename_i a b e
    cases hn : numP b with
    | none => rw [hn] at h; cases h
    | some n =>
      rw [hn] at h
      dsimp only at h
      by_cases c : ofT (.str a) small 1 8 = true
      · rw [if_pos c] at h
        cases h
        refine ⟨good_of hn c, ?_⟩
        obtain ⟨m, rfl, _, eb⟩ := num_back hn
        have j := join_split (x := x) (y := " ") (by rw [tl_bl]; simp) (by decide +kernel)
        rw [e, eb] at j
        rw [← j, ky_join]
      · rw [if_neg c] at h; cases h
  · cases h
def nD : Option Int → PyData
  | none => .none
  | some n => .int n
theorem nV_dz {H : Hp} : ∀ o : Option Int, Dz K H (nV o) (nD o)
  | none => .non
  | some n => .int n
def OkAt (H : Hp) (v : V) : Option Ky → Prop
  | none => v = .non
  | some k => KyAt H v k
def spKi : Sp := fun vs H Q _ => ∃ (x : Str), vs = [.str x] ∧ x.length ≤ 50000 ∧ ∀ v H', L2.Same H H' → OkAt H' v (keyP x) → Q v H'
def spSk : Sp := fun vs H Q _ => ∃ (v : V) (k : Ky), vs = [v] ∧ KyAt H v k ∧ GoodK k ∧ Q (.str (kyT k)) H
def spSn : Sp := fun vs H Q _ => ∃ (v : V) (n : Str × Str), vs = [v] ∧ NmAt H v n ∧ NmOk n ∧ Q (.str (nmT n)) H
theorem ok_word {f : Addr} {fd : FuncData} {e : Ex} (D : Df K mg "is_word" ["thing"] sIsWord f fd) (T : Txt K mg C CL e) (cSm : Ca P w K mg base 2 "is_small_text" ["thing", "least", "most"] (spSmall K)) : FnOk P w K mg base CX0 3 f fd ["thing"] (spWord K) := by
  obtain ⟨_, gKEY_PARTS⟩ := T.cKEY_PARTS
  obtain ⟨_, gLONGEST_WORD⟩ := T.cLONGEST_WORD
  obtain ⟨_, gLONGEST_CODE⟩ := T.cLONGEST_CODE
  obtain ⟨_, gMOST_PLAYERS⟩ := T.cMOST_PLAYERS
  obtain ⟨_, gLAST_YEAR⟩ := T.cLAST_YEAR
  obtain ⟨_, gMONTHS⟩ := T.cMONTHS
  obtain ⟨_, gFEBRUARY⟩ := T.cFEBRUARY
  obtain ⟨_, gMOST_SECONDS⟩ := T.cMOST_SECONDS
  obtain ⟨_, gSHORTEST_TONGUE⟩ := T.cSHORTEST_TONGUE
  obtain ⟨_, gLONGEST_TONGUE⟩ := T.cLONGEST_TONGUE
  obtain ⟨_, gLONGEST_TEXT⟩ := T.cLONGEST_TEXT
  obtain ⟨_, gMOST_FIGURES⟩ := T.cMOST_FIGURES
  obtain ⟨_, gDAY_PARTS⟩ := T.cDAY_PARTS
  obtain ⟨_, gYEAR_FIGURES⟩ := T.cYEAR_FIGURES
  obtain ⟨_, gSMALL_LETTERS⟩ := T.cSMALL_LETTERS
  obtain ⟨_, gTEXT_SIGNS⟩ := T.cTEXT_SIGNS
  obtain ⟨_, gFIGURES⟩ := T.cFIGURES
  obtain ⟨_, gCODE_SIGNS⟩ := T.cCODE_SIGNS
  refine D.fn.ok scIsWord (fun vs H Q E h => ?_) (fun cdv A outer s H vs Q E hr h => ?_)
  · obtain ⟨v, d, rfl, hz, sz, q⟩ := h
    rfl
  · obtain ⟨v, d, rfl, hz, sz, q⟩ := h
    refine ⟨_, (pss_one (ps_ret (pe_ca cSm hr (by decide) (by rfl) (pa_cons (pv 0) (pa_cons pe_int (pa_cons (pe_glob (v := .int 8) (by rfl) gLONGEST_WORD ⟨_, rfl⟩) pa_nil)))))), ?_⟩
    exact ⟨_, rfl, v, d, 1, 8, rfl, hz, sz, q⟩
theorem ok_keyG {f : Addr} {fd : FuncData} {e : Ex} (D : Df K mg "is_key" ["thing"] sIsKey f fd) (T : Txt K mg C CL e) (cWd : Ca P w K mg base 3 "is_word" ["thing"] (spWord K)) (cWh : Ca P w K mg base 1 "is_whole" ["thing"] (spWhole K)) : FnOk P w K mg base CX0 4 f fd ["thing"] (spIsKeyG K) := by
  obtain ⟨_, gKEY_PARTS⟩ := T.cKEY_PARTS
  obtain ⟨_, gLONGEST_WORD⟩ := T.cLONGEST_WORD
  obtain ⟨_, gLONGEST_CODE⟩ := T.cLONGEST_CODE
  obtain ⟨_, gMOST_PLAYERS⟩ := T.cMOST_PLAYERS
  obtain ⟨_, gLAST_YEAR⟩ := T.cLAST_YEAR
  obtain ⟨_, gMONTHS⟩ := T.cMONTHS
  obtain ⟨_, gFEBRUARY⟩ := T.cFEBRUARY
  obtain ⟨_, gMOST_SECONDS⟩ := T.cMOST_SECONDS
  obtain ⟨_, gSHORTEST_TONGUE⟩ := T.cSHORTEST_TONGUE
  obtain ⟨_, gLONGEST_TONGUE⟩ := T.cLONGEST_TONGUE
  obtain ⟨_, gLONGEST_TEXT⟩ := T.cLONGEST_TEXT
  obtain ⟨_, gMOST_FIGURES⟩ := T.cMOST_FIGURES
  obtain ⟨_, gDAY_PARTS⟩ := T.cDAY_PARTS
  obtain ⟨_, gYEAR_FIGURES⟩ := T.cYEAR_FIGURES
  obtain ⟨_, gSMALL_LETTERS⟩ := T.cSMALL_LETTERS
  obtain ⟨_, gTEXT_SIGNS⟩ := T.cTEXT_SIGNS
  obtain ⟨_, gFIGURES⟩ := T.cFIGURES
  obtain ⟨_, gCODE_SIGNS⟩ := T.cCODE_SIGNS
  refine D.fn.ok scIsKey (fun vs H Q E h => ?_) (fun cdv A outer s H vs Q E hr h => ?_)
  · obtain ⟨v, d, rfl, hz, s2, q⟩ := h
    rfl
  · obtain ⟨v, d, rfl, hz, s2, q⟩ := h
    refine ⟨_, (pss_cons (ps_if (PW.pt (pw_or (pt_not (pt_val (pe_callB call_isi (by rfl) T.isi (by decide +kernel) (pa_cons (pv 0) (pa_cons (pe_bltn (v := .ty "tuple") (by rfl) T.tuple (by decide +kernel) rfl) pa_nil))))) (pw_or1 (pt_cmpR op_ne (pe_callB call_len_seq (by rfl) T.len PySem.boot_len (pa_cons (pv 0) pa_nil)) (pe_glob (v := .int 2) (by rfl) gKEY_PARTS ⟨_, rfl⟩) (nomark _))))) (pss_one (ps_ret pe_bl)) pss_nil)
      (pss_cons (ps_asg (pv 0) (pg_tup (by rfl) (pgs_cons (pg_name (i := 1) scIsKey.nd rfl (.inl rfl)) (pgs_cons (pg_name (i := 2) scIsKey.nd rfl (.inl rfl)) pgs_nil))))
      (pss_one (ps_ret (pe_and (pe_ca cWd hr (by decide) (by rfl) (pa_cons (pv 1) pa_nil)) (pe_and (pe_ca cWh hr (by decide) (by rfl) (pa_cons (pv 2) pa_nil)) (pe_one (pe_cmpR op_ge (pv 2) pe_int (nomark _))))))))), ?_⟩
    refine ⟨_, rfl, _, _, _, _, isTup d, rfl, .ty _, hz.ty, z_tup d, _, rfl, ?_⟩
    have qf : kyD d = false → Q (.bl false) H := fun e => by
      have w := q H (Same.refl H)
      rw [e] at w
      exact w
    cases hz with
    | @tup t xs ds et ra =>
      refine iteF ⟨_, rfl, t, xs, rfl, .inr (SqT.of et), rfl, _, rfl, ?_⟩
      match xs, ds, ra with
      | [], _, .nil => exact iteT (qf rfl)
      | [_], _, .cons _ .nil => exact iteT (qf rfl)
      | _ :: _ :: _ :: r, _, .cons _ (.cons _ (.cons _ _)) => exact ite2 (fun _ => qf rfl) (fun e => absurd rfl (len3 e))
      | [va, vb], _, .cons (d := a) ha (.cons (d := b) hb .nil) =>
        obtain ⟨ta, tb⟩ : Tx a ∧ Tx b := ⟨s2 _ rfl a (by simp), s2 _ rfl b (by simp)⟩
        refine iteF ⟨_, rfl, t, _, rfl, SqT.of et, rfl, _, _, rfl, _, _, rfl, rfl, ?_⟩
        refine ⟨_, rfl, va, a, rfl, ha, ta, fun H1 s1 => ⟨_, rfl, ?_⟩⟩
        cases c : ofT a small 1 8 with
        | false =>
          have w := q H1 s1
          rw [show kyD (.tuple [a, b]) = false by show (ofT a small 1 8 && nn b) = false; rw [c]; rfl] at w
          exact iteF w
        | true =>
          have w := fun H' sm => q H' sm
          rw [show kyD (.tuple [a, b]) = nn b by show (ofT a small 1 8 && nn b) = _; rw [c]; rfl] at w
          refine iteT ⟨_, rfl, vb, b, rfl, hb.same s1, _, rfl, ?_⟩
          rw [isI_wh (hb.same s1)]
          unfold nn at w
          cases wb : wh b with
          | none =>
            rw [wb] at w
            exact iteF (w H1 s1)
          | some i =>
            have eb : vb = .int i := by
              cases hb <;> simp [wh] at wb
              rw [wb]
            subst eb
            rw [wb] at w
            exact iteT ⟨_, rfl, i, 0, rfl, rfl, w H1 s1⟩
    | _ => exact iteT (qf rfl)
theorem key_imp {K : PySem.W.Frag} (vs : List V) (H : Hp) (Q : VK) (E : XK) (h : spIsKey vs H Q E) : spIsKeyG K vs H Q E := by
  obtain ⟨v, k, rfl, ⟨t, rfl, et⟩, g, q⟩ := h
  refine ⟨_, .tuple [.str k.1, .int k.2], rfl, .tup et (.cons (.str _) (.cons (.int _) .nil)), fun ds e d hd x ex => ?_, fun H' s => ?_⟩
  · cases e
    rcases List.mem_cons.mp hd with z | z
    · rw [z] at ex; cases ex; have := g.w8; omega
    · rw [List.mem_singleton.mp z] at ex; cases ex
  · have z : kyD (.tuple [.str k.1, .int k.2]) = true := by
      show (ofT (.str k.1) small 1 8 && decide (0 ≤ k.2)) = true
      rw [gk_house g, decide_eq_true g.n0]
      rfl
    rw [z]
    exact q H' s
theorem ok_ki {f : Addr} {fd : FuncData} {e : Ex} (D : Df K mg "key_in" ["text"] sKeyIn f fd) (T : Txt K mg C CL e) (cNu : Ca P w K mg base 3 "number_in" ["text"] spNum) (cK : Ca P w K mg base 4 "is_key" ["thing"] (spIsKeyG K)) : FnOk P w K mg base CX0 5 f fd ["text"] spKi := by
  obtain ⟨_, gKEY_PARTS⟩ := T.cKEY_PARTS
  obtain ⟨_, gLONGEST_WORD⟩ := T.cLONGEST_WORD
  obtain ⟨_, gLONGEST_CODE⟩ := T.cLONGEST_CODE
  obtain ⟨_, gMOST_PLAYERS⟩ := T.cMOST_PLAYERS
  obtain ⟨_, gLAST_YEAR⟩ := T.cLAST_YEAR
  obtain ⟨_, gMONTHS⟩ := T.cMONTHS
  obtain ⟨_, gFEBRUARY⟩ := T.cFEBRUARY
  obtain ⟨_, gMOST_SECONDS⟩ := T.cMOST_SECONDS
  obtain ⟨_, gSHORTEST_TONGUE⟩ := T.cSHORTEST_TONGUE
  obtain ⟨_, gLONGEST_TONGUE⟩ := T.cLONGEST_TONGUE
  obtain ⟨_, gLONGEST_TEXT⟩ := T.cLONGEST_TEXT
  obtain ⟨_, gMOST_FIGURES⟩ := T.cMOST_FIGURES
  obtain ⟨_, gDAY_PARTS⟩ := T.cDAY_PARTS
  obtain ⟨_, gYEAR_FIGURES⟩ := T.cYEAR_FIGURES
  obtain ⟨_, gSMALL_LETTERS⟩ := T.cSMALL_LETTERS
  obtain ⟨_, gTEXT_SIGNS⟩ := T.cTEXT_SIGNS
  obtain ⟨_, gFIGURES⟩ := T.cFIGURES
  obtain ⟨_, gCODE_SIGNS⟩ := T.cCODE_SIGNS
  refine D.fn.ok scKeyIn (fun vs H Q E h => ?_) (fun cdv A outer s H vs Q E hr h => ?_)
  · obtain ⟨x, rfl, lx, q⟩ := h
    rfl
  · obtain ⟨x, rfl, lx, q⟩ := h
    refine ⟨_, (pss_cons (ps_asg (pe_partition (pv 0) pe_str) (pg_tup (by rfl) (pgs_cons (pg_name (i := 1) scKeyIn.nd rfl (.inl rfl)) (pgs_cons (pg_name (i := 2) scKeyIn.nd rfl (.inl rfl)) (pgs_cons (pg_name (i := 3) scKeyIn.nd rfl (.inl rfl)) pgs_nil)))))
      (pss_cons (ps_set (i := 4) scKeyIn.nd rfl (.inl rfl) (pe_tup (pa_cons (pv 1) (pa_cons (pe_ca cNu hr (by decide) (by rfl) (pa_cons (pv 3) pa_nil)) pa_nil))))
      (pss_one (ps_ret (pe_ifExp (pt_val (pe_ca cK hr (by decide) (by rfl) (pa_cons (pv 4) pa_nil))) (pv 4) pe_non))))), ?_⟩
    obtain ⟨pl1, pl2⟩ := part_len x " "
    refine ⟨_, rfl, ⟨_, rfl⟩, x, " ", rfl, rfl, rfl, fitN' lx, fun p np => ?_⟩
    have sp := same_upd np (o := .tup [.str (Txt.partition x " ").1, .str (Txt.partition x " ").2.1, .str (Txt.partition x " ").2.2])
    refine ⟨p, _, rfl, SqT.of upd_same, rfl, _, _, rfl, _, _, rfl, _, _, rfl, rfl, ?_⟩
    generalize L2.upd H p (.tup [.str (Txt.partition x " ").1, .str (Txt.partition x " ").2.1, .str (Txt.partition x " ").2.2]) = H1 at sp ⊢
    refine ⟨_, rfl, _, rfl, (Txt.partition x " ").2.2, rfl, by omega, fun H2 s2 => ⟨(by show 2 ≤ sizeLine; decide), fun t nt => ?_⟩⟩
    have st := same_upd nt (o := .tup [.str (Txt.partition x " ").1, nV (numP (Txt.partition x " ").2.2)])
    have et : (L2.upd H2 t (.tup [.str (Txt.partition x " ").1, nV (numP (Txt.partition x " ").2.2)])) t = some (.tup [.str (Txt.partition x " ").1, nV (numP (Txt.partition x " ").2.2)]) := upd_same
    generalize L2.upd H2 t (.tup [.str (Txt.partition x " ").1, nV (numP (Txt.partition x " ").2.2)]) = H3 at st et ⊢
    have s03 := (sp.trans s2).trans st
    have dz : Dz K H3 (.ref t) (.tuple [.str (Txt.partition x " ").1, nD (numP (Txt.partition x " ").2.2)]) := .tup et (.cons (.str _) (.cons (nV_dz _) .nil))
    refine ⟨_, rfl, _, _, rfl, dz, fun ds e => ?_, fun H4 s4 => ⟨_, rfl, ?_⟩⟩
    · cases e
      intro d hd y ey
      rcases List.mem_cons.mp hd with z | z
      · rw [z] at ey
        cases ey
        omega
      · rw [List.mem_singleton.mp z] at ey
        cases e : numP (Txt.partition x " ").2.2 <;> rw [e] at ey <;> cases ey
    have s04 := s03.trans s4
    have et4 := s4 _ _ et
    have kd : kyD (.tuple [.str (Txt.partition x " ").1, nD (numP (Txt.partition x " ").2.2)]) = (ofT (.str (Txt.partition x " ").1) small 1 8 && nn (nD (numP (Txt.partition x " ").2.2))) := rfl
    rw [kd]
    cases hn : numP (Txt.partition x " ").2.2 with
    | none =>
      rw [show nn (nD none) = false from rfl, Bool.and_false]
      refine iteF (q _ H4 s04 ?_)
      unfold keyP
      rw [hn]
      rfl
    | some n =>
      obtain ⟨m, em, _⟩ := num_back hn
      rw [show nn (nD (some n)) = decide (0 ≤ n) from rfl, decide_eq_true (by omega), Bool.and_true]
      rw [hn] at et4
      by_cases a : ofT (.str (Txt.partition x " ").1) small 1 8 = true
      · rw [a]
        refine iteT ⟨_, rfl, q _ H4 s04 ?_⟩
        unfold keyP
        rw [hn]
        dsimp only
        rw [if_pos a]
        exact ⟨t, rfl, et4⟩
      · rw [Bool.eq_false_iff.mpr a]
        refine iteF (q _ H4 s04 ?_)
        unfold keyP
        rw [hn]
        dsimp only
        rw [if_neg a]
        rfl
theorem ok_sk {f : Addr} {fd : FuncData} {e : Ex} (D : Df K mg "show_key" ["key"] sShowKey f fd) (T : Txt K mg C CL e) : FnOk P w K mg base CX0 1 f fd ["key"] spSk := by
  refine D.fn.ok scShowKey (fun vs H Q E h => ?_) (fun cdv A outer s H vs Q E hr h => ?_)
  · obtain ⟨v, k, rfl, ⟨t, rfl, et⟩, g, q⟩ := h
    rfl
  · obtain ⟨v, k, rfl, ⟨t, rfl, et⟩, g, q⟩ := h
    refine ⟨_, (pss_cons (ps_asg (pv 0) (pg_tup (by rfl) (pgs_cons (pg_name (i := 1) scShowKey.nd rfl (.inl rfl)) (pgs_cons (pg_name (i := 2) scShowKey.nd rfl (.inl rfl)) pgs_nil))))
      (pss_one (ps_ret (pe_joined (.cons (pe_fmt (pv 1)) (.cons pe_str (.cons (pe_fmt (pv 2)) .nil))))))), ?_⟩
    have e0 : Str.empty.length = 0 := rfl
    have e1 : (" " : Str).length = 1 := by decide +kernel
    have lw := g.w8
    have ln := kyn_len g
    refine ⟨_, rfl, t, _, rfl, SqT.of et, rfl, _, _, rfl, _, _, rfl, rfl, ?_⟩
    refine ⟨_, rfl, .inl ⟨_, rfl, fitN (by omega), _, rfl, fitN ?_, _, rfl, fitN ?_, _, rfl, .inr ⟨_, rfl, lg (by have := g.n0; omega) (by have := g.n1; omega), _, rfl, fitN ?_, ?_⟩⟩⟩
    · rw [strLen_append, e0]; omega
    · rw [strLen_append, strLen_append, e0, e1]; omega
    · rw [strLen_append, strLen_append, strLen_append, e0, e1]
      have : (toString k.2 : Str).length = (nT k.2).length := rfl
      omega
    · show Q (V.str (Str.empty ++ k.1 ++ " " ++ nT k.2)) H
      rw [Str.empty_append]
      exact q
theorem ok_sn {f : Addr} {fd : FuncData} {e : Ex} (D : Df K mg "show_name" ["name"] sShowName f fd) (T : Txt K mg C CL e) : FnOk P w K mg base CX0 1 f fd ["name"] spSn := by
  refine D.fn.ok scShowName (fun vs H Q E h => ?_) (fun cdv A outer s H vs Q E hr h => ?_)
  · obtain ⟨v, n, rfl, nv, ok, q⟩ := h
    rfl
  · obtain ⟨v, n, rfl, nv, ok, q⟩ := h
    refine ⟨_, (pss_cons (ps_asg (pv 0) (pg_tup (by rfl) (pgs_cons (pg_name (i := 1) scShowName.nd rfl (.inl rfl)) (pgs_cons (pg_name (i := 2) scShowName.nd rfl (.inl rfl)) pgs_nil))))
      (pss_one (ps_ret (pe_joined (.cons (pe_fmt (pv 1)) (.cons pe_str (.cons (pe_fmt (pv 2)) .nil))))))), ?_⟩
    obtain ⟨t, rfl, et⟩ := nv
    have l1 := ok.tx.l40
    have l2 := ok.tl
    have l4 : (":" : Str).length = 1 := by decide +kernel
    have e0 : Str.empty.length = 0 := rfl
    refine ⟨_, rfl, t, _, rfl, SqT.of et, rfl, _, _, rfl, _, _, rfl, rfl, ?_⟩
    refine ⟨_, rfl, .inl ⟨_, rfl, fitN (by omega), _, rfl, fitN ?_, _, rfl, fitN ?_, _, rfl, .inl ⟨_, rfl, fitN (by omega), _, rfl, fitN ?_, ?_⟩⟩⟩
    · rw [strLen_append, e0]; omega
    · rw [strLen_append, strLen_append, e0, l4]; omega
    · rw [strLen_append, strLen_append, strLen_append, e0, l4]; omega
    · show Q (V.str (Str.empty ++ n.1 ++ ":" ++ n.2)) _
      rw [Str.empty_append]
      exact q
end
end K69
set_option Elab.async false
set_option linter.all false
set_option maxRecDepth 100000
set_option maxHeartbeats 4000000
set_option pp.maxSteps 400
set_option pp.deepTerms false
/-! head, *rest = a list. -/
namespace Xst
open PySem PySem.Spec PyProof.Rows L2
section
variable {prog : Program} {w : World} {A : Around} {E : Value → Shared → Prop} {s : Shared}
/-- what is unpacked: the first item, and a new list of the others -/
theorem items_star {l : Addr} {x : Value} {its : List Value} {Q : List Value → Shared → Prop} (calm : A.handled = none) (hl : s.heap.IsList l (x :: its).toArray) (hz : its.length ≤ 16000)
    (hQ : ∀ (g : Heap) (tk : Tok), Heap.ExtBut s.heap.objs.size s.heap g → Q [x, .ref g.objs.size] { s with heap := g.push { cls := .type "list", data := .seq its.toArray }, toks := tk }) :
    wpAny (model prog w) A (unpackItems (.ref l) 2 (some 1)) Q E s := by
  have old : l < s.heap.objs.size := by
    obtain ⟨o, e, _⟩ := hl
    exact Heap.lt_size e
  have lne : l ≠ s.heap.objs.size := Nat.ne_of_lt old
  unfold unpackItems
  refine wpAny_bind (show wpAny (model prog w) A (notIterableAtAll (.ref l)) _ E s from ?_)
  unfold notIterableAtAll
  refine wpAny_bind (wpAny_specialOf hl.typeIs PySem.F.slot_list_iter.lookup (wpAny_pure ?_))
  simp only [Bool.false_eq_true, if_false]
  refine wpAny_bind (wpAny_holding (wpAny_pyIter_list hl (wpAny_bind (wpAny_holding (PySem.W.kun_draw lne 1 0 _ _ ⟨_, Heap.get?_push_size _ rfl, rfl, rfl⟩ (hl.push _) (by simp) fun g1 it1 ext1 => ?_)))))
  have hl1 : g1.IsList l (x :: its).toArray := (hl.push _).extBut ext1.extBut lne
  obtain ⟨oi, ei, _⟩ := id it1
  obtain ⟨ol, el, _⟩ := id hl1
  simp only [List.drop_zero, List.take_succ_cons, List.take_zero]
  rw [if_neg (show ¬ ([x].length < 1) from Nat.lt_irrefl 1)]
  have sz : (x :: its).toArray.size ≤ sizeLine := by
    rw [List.size_toArray, List.length_cons]
    have : sizeLine = 16777216 := by decide
    omega
  refine wpAny_bind (wpAny_holding (PySem.W.kun_collect (s := { s with heap := g1 }) (T := "list_iterator") (.inr (.inr (.inl rfl))) (Walks.list (A := A.in1) calm s.heap.objs.size l lne (x :: its).toArray) (fun j u st => st.1.typeIs) (k := 1) (by simp)
    ⟨it1, hl1⟩ (Heap.lt_size ei) (Heap.lt_size el) (fun g2 tk keep => ?_) sz))
  have ext2 : Heap.ExtBut s.heap.objs.size s.heap g2 := fun b o nb e => keep b o nb (ext1.extBut b o nb (Heap.get?_push_of_some _ e))
  simp only [List.drop_succ_cons, List.drop_zero]
  rw [if_neg (show ¬ (its.length < 2 - 1 - 1) by omega)]
  have tk0 : its.take (its.length - (2 - 1 - 1)) = its := List.take_of_length_le (by omega)
  have dr0 : its.drop (its.length - (2 - 1 - 1)) = [] := List.drop_eq_nil_of_le (by omega)
  rw [tk0, dr0]
  refine wpAny_bind (wpAny_newList (wpAny_pure (hQ g2 tk ext2)) ?_)
  have : sizeLine = 16777216 := by decide
  omega
end
/-- head, *rest = a list -/
def gStar (K : PySem.W.Frag) (t : TGs) : TG := fun v σ H Q => ∃ (a : Addr) (x : V) (xs : List V), v = .ref a ∧ SqL K H a (x :: xs) ∧ xs.length ≤ 16000 ∧ ∀ p, H p = none → t [x, .ref p] σ (upd H p (.lst xs)) Q
section
variable {X : Cx} {pos : Pos}
theorem pgs_star {e : Expr} {p : Pos} {t : TG} (h1 : PG X e t) : PGs X [.Starred e p] (gCons t gNil) := by
  refine ⟨fun pins s σ H vs us Q I r h => ?_⟩
  obtain ⟨v, vr, e1, h⟩ := h
  subst e1
  cases r with
  | cons r rr =>
    have hs : (assignEach [.Starred e p] X.env).map (·.2) = assign e X.env :: (assignEach [] X.env).map (·.2) := rfl
    rw [hs]
    exact assignInOrder_cons (thn (h1.run pins s σ H _ _ _ I r h) fun _ s1 ⟨σ1, H1, I1, q1⟩ => pgs_nil.run pins s1 σ1 H1 _ _ Q I1 rr q1)
theorem pg_star {es : List Expr} {k : Nat} {t : TGs} (hc : X.calm = true) (h : PGs X es t) (hn : (assignEach es X.env).length = 2 := by rfl) (hst : (assignEach es X.env).findIdx? (·.1) = some 1 := by rfl) : PG X (.Tuple es k pos) (gStar X.K t) := by
  refine ⟨fun pins s σ H v u Q I r hw => ?_⟩
  obtain ⟨a, x, xs, e1, hq, hl, hw⟩ := hw
  subst e1
  cases r
  obtain ⟨its, rv, pl, hz⟩ := I.list hq
  cases rv with
  | cons rx rr =>
    rw [PyProof.Rows.assign_Tuple]
    refine wpAny_bind (wpAny_standAt ?_)
    unfold unpack
    rw [hn, hst]
    refine wpAny_bind (wpAny_holding (items_star (I.ok.hd hc) pl.isList (by rw [← rr.length]; exact hl) fun g tk ext => ?_))
    have I1 : Inv X pins σ H { s with heap := g, toks := tk } := I.kept (t' := tk) fun b o e => ext b o (Nat.ne_of_lt (Heap.lt_size e)) e
    have fr : H g.objs.size = none := I1.hok.fresh (Nat.le_refl _)
    have xz : xs.length ≤ sizeLine := Nat.le_trans hl (by decide)
    refine h.run pins _ σ _ _ _ Q (I1.laid (t' := tk) (o := .lst xs) (fun b u e => Heap.get?_push_of_some _ e) (Nat.le_refl _) ⟨xz, _, 0, rr, Heap.get?_push_size _ rfl⟩) (.cons rx (.cons (show RelV (.ref g.objs.size) (.ref g.objs.size) from rfl) .nil)) (hw _ fr)
end
end Xst
set_option Elab.async false
set_option linter.all false
set_option maxRecDepth 100000
set_option maxHeartbeats 4000000
set_option pp.maxSteps 400
set_option pp.deepTerms false
namespace K69
open PySem PySem.Spec PyProof.Rows L2
open Xk Az Xtx Xst
section
variable {P : Program} {w : World} {K : PySem.W.Frag} {mg : Str → Option Value} {base : Heap} {C CL : Addr}
/-- blanks and line feeds alone -/
def Bl (x : Str) : Prop := (∀ c ∈ TL.tl x, c = 32 ∨ c = 10) ∧ x.length ≤ 60
theorem bl_split {x : Str} (h : Bl x) : Txt.split x " | " = [x] := by
  have e := TL.split_spl x " | " (by decide +kernel) (TL.kind_ok (by decide +kernel))
  have no : ∀ i, i < (TL.tl x).length → TL.pre (TL.tl " | ") ((TL.tl x).drop i) = false := fun i _ => by
    cases hp : TL.pre (TL.tl " | ") ((TL.tl x).drop i) with
    | false => rfl
    | true =>
      have e2 : ((TL.tl x).drop i).take (TL.tl " | ").length = TL.tl " | " := eq_of_beq hp
      have m : (124 : Nat) ∈ TL.tl " | " := by decide +kernel
      rw [← e2] at m
      rcases h.1 _ (List.mem_of_mem_drop (List.mem_of_mem_take m)) with z | z <;> cases z
  rw [TL.spl_last no] at e
  exact TL.map_tl_inj (m := [x]) e
theorem bl_key {x : Str} (h : Bl x) : keyP x = none := by
  have eb : TL.tl (" " : Str) = [32] := by decide +kernel
  by_cases m : 32 ∈ TL.tl x
  · obtain ⟨a, b, e, na⟩ := List.eq_append_cons_of_mem m
    have ex : x = (⟨a.toArray⟩ : Str) ++ " " ++ (⟨b.toArray⟩ : Str) := TL.ext_tl (by
      rw [TL.tl_append, TL.tl_append, eb, e, List.append_assoc]
      rfl)
    have ep := TL.partition_app (y := " ") (S := []) eb (a := ⟨a.toArray⟩) (b := ⟨b.toArray⟩) (by rw [TL.tl_mk]; exact na)
    rw [← ex] at ep
    unfold keyP
    rw [ep]
    have bad : ofT (.str (⟨a.toArray⟩ : Str)) small 1 8 = false := by
      rw [← Bool.not_eq_true, ofT_iff]
      rintro ⟨l1, _, ck⟩
      cases ha : a with
      | nil => rw [ha] at l1; exact absurd l1 (by decide)
      | cons c r =>
        have hc : c ∈ a := by rw [ha]; exact List.mem_cons_self
        have h10 : c = 10 := (h.1 c (by rw [e]; exact List.mem_append_left _ hc)).resolve_left fun z => na (z ▸ hc)
        have := chk_iff.mp ck c hc
        rw [h10] at this
        revert this
        decide +kernel
    dsimp only
    rw [bad]
    cases numP (⟨b.toArray⟩ : Str) <;> rfl
  · unfold keyP
    rw [TL.partition_none (y := " ") (S := []) eb m]
    have : numP Str.empty = none := by decide +kernel
    dsimp only
    rw [this]
def spNo : Sp := fun vs H Q _ => ∃ x : Str, vs = [.str x] ∧ Bl x ∧ ∀ H', L2.Same H H' → Q .non H'
theorem ok_ei {f : Addr} {fd : FuncData} {e : Ex} (D : Df K mg "entry_in" ["text"] sEntryIn f fd) (T : Txt K mg C CL e) (cKi : Ca P w K mg base 5 "key_in" ["text"] spKi) : FnOk P w K mg base CX0 9 f fd ["text"] spNo := by
  refine D.fn.ok scEntryIn (fun vs H Q E h => ?_) (fun cdv A outer s H vs Q E hr h => ?_)
  · obtain ⟨x, rfl, bl, q⟩ := h
    rfl
  · obtain ⟨x, rfl, bl, q⟩ := h
    refine ⟨_, (pss_cons (ps_asg (pe_m1 F.slot_str_split F.type_str_split mt_split (pv 0) pe_str) (Xst.pg_star (by rfl) (pgs_cons (pg_name (i := 1) scEntryIn.nd rfl (.inl rfl)) (Xst.pgs_star (pg_name (i := 2) scEntryIn.nd rfl (.inr rfl))))))
      (pss_cons (ps_set (i := 3) scEntryIn.nd rfl (.inl rfl) (pe_ca cKi hr (by decide) (by rfl) (pa_cons (pv 1) pa_nil)))
      (pss_cons (ps_if (pt_cmpR op_isN (pv 3) pe_non (nomark _)) (pss_one (ps_ret pe_non)) pss_nil)
      (pss_cons (ps_no)
      (pss_one (ps_no)))))), ?_⟩
    refine ⟨_, rfl, ⟨_, rfl⟩, x, " | ", rfl, rfl, rfl, Nat.le_trans (show _ ≤ 60000 by have := bl.2; omega) (by decide), fun S nS => ?_⟩
    rw [bl_split bl]
    have sS := same_upd nS (o := .lst (([x] : List Str).map V.str))
    have eS : (L2.upd H S (.lst (([x] : List Str).map V.str))) S = some (.lst [.str x]) := upd_same
    generalize L2.upd H S (.lst (([x] : List Str).map V.str)) = H1 at sS eS ⊢
    refine ⟨S, .str x, [], rfl, SqL.of eS, by decide, fun L nL => ?_⟩
    have sL := same_upd nL (o := .lst [])
    generalize L2.upd H1 L (.lst []) = H2 at sL ⊢
    refine ⟨_, _, rfl, _, _, rfl, rfl, ?_⟩
    refine ⟨_, rfl, x, rfl, Nat.le_trans bl.2 (by decide), fun v H3 s3 hv => ?_⟩
    rw [bl_key bl] at hv
    cases (show v = .non from hv)
    exact ⟨_, rfl, rfl, _, rfl, iteT (q _ ((sS.trans sL).trans s3))⟩
end
end K69
set_option Elab.async false
set_option linter.all false
set_option maxRecDepth 100000
set_option maxHeartbeats 4000000
set_option pp.maxSteps 400
set_option pp.deepTerms false
namespace K69
open PySem PySem.Spec PyProof.Rows L2
open Xk Az Xtx Xst
section
variable {P : Program} {w : World} {K : PySem.W.Frag} {mg : Str → Option Value} {base : Heap} {C CL : Addr}
def spNX (e : Ex) : Sp := fun vs H Q _ => ∃ (a : Addr) (r x : V), vs = [.ref a, r, x] ∧ H a = some (exo a e.NoText none) ∧
  ∀ p H', H p = none → p ≠ a → H' a = some (exo a e.NoText (some p)) → H' p = some (exd p [("wanted", x), ("row", r)]) → (∀ b, b ≠ a → b ≠ p → H' b = H b) → Q .non H'
def Rz (e : Ex) (H : Hp) (r x : V) (E : XK) : Prop := ∀ (p : Addr) (H' : Hp), L2.Same H H' → H' p = some (.xd [("wanted", x), ("row", r)]) → E (.ref e.NoText) (some p) H'
theorem ok_ntx {f : Addr} {fd : FuncData} {e : Ex} (F : Fun K "__init__" "NoText.__init__" sNoTextInit f fd) (T : Txt K mg C CL e) : FnOk P w K mg base CX0 1 f fd ["self", "row", "wanted"] (spNX e) := by
  refine F.ok scNoTextInit (fun vs H Q E h => ?_) (fun cdv A outer s H vs Q E hr h => ?_)
  · obtain ⟨a, r, x, rfl, ha, q⟩ := h
    rfl
  · obtain ⟨a, r, x, rfl, ha, q⟩ := h
    refine ⟨_, (pss_cons (ps_expr (pe_binit T.bi (by rfl) T.mNotSuch (pa_cons (pv 0) (pa_cons pe_str pa_nil))))
      (pss_cons (ps_ost (pv 0) (pv 1))
      (pss_one (ps_ost (pv 0) (pv 2))))), ?_⟩
    refine ⟨_, rfl, a, e.NoText, [.str "not so written"], rfl, (by show 1 ≤ 1000; decide), T.oex, ha, ?_⟩
    refine ⟨_, rfl, _, rfl, a, e.NoText, rfl, T.oex, T.f1, .inl ⟨ha, fun p np ne => ?_⟩⟩
    have e1 : (upd (upd H p (exd p [("row", r)])) a (exo a e.NoText (some p))) p = some (exd p [("row", r)]) := by rw [upd_ne ne, upd_same]
    refine ⟨_, rfl, _, rfl, a, e.NoText, rfl, T.oex, T.f2, .inr ⟨p, _, upd_same, e1, (by show 1 ≤ 900; decide), ?_⟩⟩
    have e2 : ∀ {o : HO}, (upd (upd (upd H p (exd p [("row", r)])) a (exo a e.NoText (some p))) p o) a = some (exo a e.NoText (some p)) := fun {o} => by rw [upd_ne (Ne.symm ne), upd_same]
    refine q p _ np ne e2 upd_same fun b hb hp => ?_
    rw [upd_ne hp, upd_ne hb, upd_ne hp]
structure Nt (P : Program) (w : World) (K : PySem.W.Frag) (mg : Str → Option Value) (base : Heap) (e : Ex) (f : Addr) (fd : FuncData) : Prop where
  ok : FnOk P w K mg base CX0 1 f fd ["self", "row", "wanted"] (spNX e)
  at_ : PySem.W.findIn K (.ref e.NoText) "__init__" = some (some (.ref f))
  ty : PySem.W.typeIn K (.ref f) = some (.type "function")
  bd : Binds K fd ["self", "row", "wanted"] []
theorem raised {e : Ex} {H : Hp} {r x : V} {E : XK} (q : Rz e H r x E) : ∀ a, H a = none → spNX e [.ref a, r, x] (upd H a (exo a e.NoText none))
    (fun z H2 => z = .non ∧ ∃ (p : Addr) (fs : List (Str × V)), H2 a = some (exo a e.NoText (some p)) ∧ H2 p = some (exd p fs) ∧ H p = none ∧ E (.ref e.NoText) (some p) (upd (del H2 a) p (.xd fs))) E0 := fun a na => by
  refine ⟨a, r, x, rfl, upd_same, fun p H' np ne e1 e2 off => ⟨rfl, p, _, e1, e2, ?_, ?_⟩⟩
  · rw [upd_ne ne] at np
    exact np
  · rw [upd_ne ne] at np
    have mx : upd (del H' a) p (.xd [("wanted", x), ("row", r)]) = upd H p (.xd [("wanted", x), ("row", r)]) := by
      funext b
      by_cases hd : b = p
      · rw [hd, upd_same, upd_same]
      · rw [upd_ne hd, upd_ne hd]
        by_cases ha : b = a
        · rw [ha, del_same, na]
        · rw [del_ne ha, off b ha hd, upd_ne ha]
    rw [mx]
    exact q p _ (same_upd np) upd_same
/-- a thing of which a reader finds nothing: blanks and line feeds, or no text -/
def Thn (K : PySem.W.Frag) (H : Hp) (v : V) : Prop := (∃ x, v = .str x ∧ Bl x) ∨ ∃ t, TyX K H v t ∧ PySem.W.kitOne K t (.type "str") = some false
def spSoN (K : PySem.W.Frag) (wd : Str) (e : Ex) (fR : Addr) : Sp := fun vs H Q E => ∃ (v : V) (row : Int), vs = [.ref fR, v, .str wd, .int row] ∧ Thn K H v ∧ ∀ H', L2.Same H H' → Rz e H' (.int row) (.str wd) E
def spRdN (K : PySem.W.Frag) (wd : Str) (e : Ex) : Sp := fun vs H Q E => ∃ v : V, vs = [v] ∧ Thn K H v ∧ ∀ H', L2.Same H H' → Rz e H' (.int 0) (.str wd) E
theorem ok_sd {f : Addr} {fd : FuncData} {e : Ex} {fN fR : Addr} {fdN : FuncData} {wd : Str} (F : FunD K "so_written" "so_written" (defArgs sSoWritten) (defBody sSoWritten) (defScope sSoWritten) [.int 0] [] f fd) (T : Txt K mg C CL e) (N : Nt P w K mg base e fN fdN) (kR : PySem.W.keepIn K (.ref fR) = true) (RR : FnR P w K mg base CX0 9 fR spNo) : FnOk P w K mg base (L2.CX P w) 10 f fd ["reader", "text", "wanted", "row"] (spSoN K wd e fR) := by
  refine F.ok (CX := L2.CX P w) scSoWritten (fun vs H Q E h => ?_) (fun cdv A outer s H vs Q E hr h => ?_)
  · obtain ⟨v, row, rfl, th, q⟩ := h
    rfl
  · obtain ⟨v, row, rfl, th, q⟩ := h
    refine ⟨_, (pss_cons (ps_set (i := 4) scSoWritten.nd rfl (.inl rfl) (pe_ifExp (pt_val (pe_callB call_isi (by rfl) T.isi (by decide +kernel) (pa_cons (pv 1) (pa_cons (pe_bltn (v := .ty "str") (by rfl) T.str (by decide +kernel) rfl) pa_nil)))) (ItX.pe_callV (i := 0) RR hr kR pass0 (by rfl) (by first | exact Or.inl rfl | exact Or.inr (Or.inl rfl)) (pa_cons (pv 1) pa_nil)) pe_non))
      (pss_cons (ps_if (pt_cmpR op_isN (pv 4) pe_non (nomark _)) (pss_one (ps_raise rfl (takes_of rfl rfl rfl rfl) (pmk_oex T.oex N.at_ N.ty N.ok (hr.mono (by decide)) N.bd .nil pass0 (by rfl) T.mNoText (pa_cons (pv 3) (pa_cons (pv 2) pa_nil))))) pss_nil)
      (pss_one (ps_ret (pv 4))))), ?_⟩
    rcases th with ⟨x, rfl, bl⟩ | ⟨ty, ht, kt⟩
    · have ty : TyX K H (.str x) (.type "str") := .base (.str _)
      refine ⟨_, rfl, _, _, _, _, true, rfl, .ty _, ty, kit_ty (by decide +kernel), true, rfl, iteT ?_⟩
      exact ⟨rfl, _, rfl, x, rfl, bl, fun H1 s1 => ⟨_, rfl, rfl, _, rfl, iteT ⟨_, rfl, _, rfl, (by show 2 ≤ 1000; decide), raised (q H1 s1)⟩⟩⟩
    · refine ⟨_, rfl, _, _, _, _, false, rfl, .ty _, ht, kt, false, rfl, iteF ?_⟩
      exact ⟨_, rfl, rfl, _, rfl, iteT ⟨_, rfl, _, rfl, (by show 2 ≤ 1000; decide), raised (q H (Same.refl H))⟩⟩
end
end K69
set_option Elab.async false
set_option linter.all false
set_option maxRecDepth 100000
set_option maxHeartbeats 4000000
set_option pp.maxSteps 400
set_option pp.deepTerms false
namespace K69
open PySem PySem.Spec PyProof.Rows L2
open Xk Az Xtx Xst
section
variable {P : Program} {w : World} {K : PySem.W.Frag} {mg : Str → Option Value} {base : Heap} {C CL : Addr}
theorem bl_one {x y : Str} {s : Nat} {S : List Nat} (h : Bl x) (ey : TL.tl y = s :: S) (hk : y.cps.all (· < 256) = true) (n1 : s ≠ 32) (n2 : s ≠ 10) : Txt.split x y = [x] := by
  have e := TL.split_spl x y (by rw [ey]; simp) (TL.kind_ok hk)
  rw [ey, TL.spl_last1 (fun m => (h.1 s m).elim n1 n2)] at e
  exact TL.map_tl_inj (m := [x]) e
theorem bl_day {x : Str} (h : Bl x) {y : Int} {m d : Option Int} (g : Good y m d) : x ≠ dayText y m d := fun z => by
  have e1 := bl_one h (y := "-") (s := 45) (S := []) (by decide +kernel) (by decide +kernel) (by decide) (by decide)
  have e2 := day_split g
  rw [← z, e1] at e2
  obtain ⟨w, hw⟩ : ∃ n : Nat, y = (n : Int) := ⟨y.toNat, by have := g.1; omega⟩
  have m4 : zpad 4 y ∈ partsT y m d := by cases m <;> cases d <;> simp [partsT]
  rw [← e2, List.mem_singleton] at m4
  rw [hw] at m4
  have dg := zp_digits 4 w
  have ls := zp_list 4 w
  rw [m4] at dg ls
  have ne := TL.numL_ne w
  obtain ⟨c, hc⟩ : ∃ c, c ∈ TL.numL w := by
    cases e : TL.numL w with
    | nil => exact absurd e ne
    | cons c r => exact ⟨c, List.mem_cons_self⟩
  have cx : c ∈ x.cps.toList := by rw [ls]; exact List.mem_append_right _ hc
  have := dg c cx
  rcases h.1 c cx with q | q <;> (rw [q] at this; revert this; decide)
theorem blank_len {x : Str} (h : Bl x) {c : Int} : x ≠ lenText c := fun z => by
  have m : (58 : Nat) ∈ TL.tl x := by
    rw [z]
    unfold lenText
    rw [TL.tl_append, TL.tl_append]
    exact List.mem_append_left _ (List.mem_append_right _ (by decide +kernel))
  rcases h.1 _ m with q | q <;> cases q
theorem bl_nm {x : Str} (h : Bl x) : nmF x = none := by
  unfold nmF
  rw [TL.partition_none (y := ":") (s := 58) (S := []) (by decide +kernel) (fun m => by rcases h.1 _ m with q | q <;> cases q)]
  rw [if_neg]
  show ¬ (ofT (.str x) small 2 3 && ntx (.str Str.empty)) = true
  rw [show ntx (.str Str.empty) = false by decide +kernel, Bool.and_false]
  exact Bool.false_ne_true
theorem di_no {vs : List V} {H : Hp} {Q : VK} {E : XK} (h : spNo vs H Q E) : spDi C vs H Q E := by
  obtain ⟨x, rfl, bl, q⟩ := h
  exact ⟨x, rfl, Nat.le_trans bl.2 (by decide), fun y m d g e => absurd e (bl_day bl g), fun _ H' s => q H' s⟩
theorem li_no {vs : List V} {H : Hp} {Q : VK} {E : XK} (h : spNo vs H Q E) : spLi CL vs H Q E := by
  obtain ⟨x, rfl, bl, q⟩ := h
  exact ⟨x, rfl, Nat.le_trans bl.2 (by decide), fun c _ _ e => absurd e (blank_len bl), fun _ H' s => q H' s⟩
theorem ni_no {vs : List V} {H : Hp} {Q : VK} {E : XK} (h : spNo vs H Q E) : spNi vs H Q E := by
  obtain ⟨x, rfl, bl, q⟩ := h
  refine ⟨x, rfl, Nat.le_trans bl.2 (by decide), fun v H' s r => ?_⟩
  unfold R2 at r
  rw [bl_nm bl] at r
  cases (show v = .non from r)
  exact q H' s
theorem ki_no {vs : List V} {H : Hp} {Q : VK} {E : XK} (h : spNo vs H Q E) : spKi vs H Q E := by
  obtain ⟨x, rfl, bl, q⟩ := h
  refine ⟨x, rfl, Nat.le_trans bl.2 (by decide), fun v H' s r => ?_⟩
  rw [bl_key bl] at r
  cases (show v = .non from r)
  exact q H' s
end
end K69
set_option Elab.async false
set_option linter.all false
set_option maxRecDepth 100000
set_option maxHeartbeats 4000000
set_option pp.maxSteps 400
set_option pp.deepTerms false
namespace K69
open PySem PySem.Spec PyProof.Rows L2
open Xk Az Xtx Xst
section
variable {P : Program} {w : World} {K : PySem.W.Frag} {mg : Str → Option Value} {base : Heap} {C CL : Addr}
theorem pt_no {X : Cx} {e : Expr} : PT X e (fun _ _ _ => False) := ⟨fun _ _ _ _ _ _ h => False.elim h⟩
theorem bl_pre {x y : Str} (h : Bl x) : Bl (Txt.removeprefix x y) := by
  rw [PySem.StrLaws.removeprefix_eq]
  split
  · refine ⟨fun c hc => h.1 c (List.mem_of_mem_drop (List.mem_of_mem_take (show c ∈ (x.cps.toList.drop y.length).take (x.length - y.length) from hc))), ?_⟩
    have l : ((⟨((x.cps.toList.drop y.length).take (x.length - y.length)).toArray⟩ : Str)).length ≤ x.length := by
      show ((x.cps.toList.drop y.length).take (x.length - y.length)).toArray.size ≤ _
      rw [List.size_toArray, List.length_take]
      omega
    exact Nat.le_trans l h.2
  · exact h
theorem bl_word {x : Str} (h : Bl x) : ofT (.str x) small 1 8 = false := by
  rw [← Bool.not_eq_true, ofT_iff]
  rintro ⟨l1, _, ck⟩
  obtain ⟨c, hc⟩ : ∃ c, c ∈ x.cps.toList := by
    cases e : x.cps.toList with
    | nil => rw [len_cps x, e] at l1; exact absurd l1 (by decide)
    | cons c r => exact ⟨c, List.mem_cons_self⟩
  have := chk_iff.mp ck c hc
  rcases h.1 c hc with q | q <;> (rw [q] at this; revert this; decide +kernel)
theorem bl_empty : Bl Str.empty := ⟨(fun c hc => by cases hc), by decide⟩
theorem r65 {A : Around} {k : Nat} (hr : Room k A) : A.units + 65 < cLine := by have := hr.un; omega
theorem none_shaped : SeqAt.shaped .none = true := by decide +kernel
theorem nones_shaped : SeqAt.shaped (.list [.none]) = true := by decide +kernel
def spAiN (fR : Addr) : Sp := fun vs H Q _ => ∃ x : Str, vs = [.ref fR, .str x] ∧ Bl x ∧ ∀ H', L2.Same H H' → Q .non H'
theorem ok_ai {f : Addr} {fd : FuncData} {e : Ex} {fR : Addr} (D : Df K mg "all_in" ["reader", "text"] sAllIn f fd) (T : Txt K mg C CL e) (kR : PySem.W.keepIn K (.ref fR) = true) (RR : FnR P w K mg base CX0 5 fR spNo) : FnOk P w K mg base CX0 6 f fd ["reader", "text"] (spAiN fR) := by
  refine D.fn.ok scAllIn (fun vs H Q E h => ?_) (fun cdv A outer s H vs Q E hr h => ?_)
  · obtain ⟨x, rfl, bl, q⟩ := h
    rfl
  · obtain ⟨x, rfl, bl, q⟩ := h
    refine ⟨_, (pss_cons (ps_setLc (i := 2) (own := [("piece", 3)]) (g := gName 3) (tt := tYes) (te := ItX.tCallV 0 fR spNo E0 (tCons (tVar 3) tNil)) (by rfl) scAllIn.nd rfl rfl (sw_true rfl rfl rfl (by decide +kernel)) (pi_list (pe_m1 F.slot_str_split F.type_str_split mt_split (pv 1) pe_str)) (blkOk_by (own := [("piece", 3)]) (N := ["reader", "text", "things", "piece"]) (sc := defScope sAllIn) (by decide +kernel)) (fun _ _ _ _ _ => pg_name (i := 3) scAllIn.nd rfl (.inl rfl)) (fun _ _ _ _ _ => pts_nil) (fun _ _ _ _ _ => ItX.pe_callV (i := 0) RR hr kR pass0 (by rfl) (by first | exact Or.inl rfl | exact Or.inr (Or.inl rfl) | exact Or.inr (Or.inr rfl)) (pa_cons (pv 3) pa_nil)))
      (pss_one (ps_ret (pe_ifExp (pt_cmpR (op_inD (r65 hr)) pe_non (pv 2) (by rfl)) pe_non (pe_callTy call_tuple_of (by rfl) T.tuple (by decide +kernel) (pa_cons (pv 2) pa_nil)))))), ?_⟩
    refine ⟨_, rfl, ⟨_, rfl⟩, x, ", ", rfl, rfl, rfl, Nat.le_trans (show _ ≤ 60000 by have := bl.2; omega) (by decide), fun S nS => ?_⟩
    rw [bl_one bl (y := ", ") (s := 44) (S := [32]) (by decide +kernel) (by decide +kernel) (by decide) (by decide)]
    have sS := same_upd nS (o := .lst (([x] : List Str).map V.str))
    have eS : (L2.upd H S (.lst (([x] : List Str).map V.str))) S = some (.lst [.str x]) := upd_same
    generalize L2.upd H S (.lst (([x] : List Str).map V.str)) = H1 at sS eS ⊢
    refine ⟨S, rfl, ⟨_, SqL.of eS⟩, fun W nW => ?_⟩
    refine lc_list (K := K) (a := S) (xs := [V.str x]) (fun i Hi => L2.Same H1 Hi ∧ Hi W = some (.lst (List.replicate i V.non))) ⟨same_upd nW, upd_same⟩ (fun i Hi _ z => SqL.of (z.1 _ _ eS)) ?_ ?_
    · rintro i v Hi hv ⟨sm, eW⟩
      obtain ⟨rfl, rfl⟩ : i = 0 ∧ v = .str x := by
        cases i with
        | zero => cases hv; exact ⟨rfl, rfl⟩
        | succ i => simp at hv
      refine ⟨rfl, ?_⟩
      unfold tYes
      refine iteT ⟨rfl, _, rfl, x, rfl, bl, fun H2 s2 => ⟨_, s2 _ _ eW, by decide, fun b o e => ?_, upd_same⟩⟩
      rw [upd_ne (ne_of_none e nW)]
      exact s2 _ _ (sm _ _ e)
    rintro H2 ⟨s2, eW⟩
    refine ⟨_, rfl, .none, [.none], .non, .lst (SqL.of eW) (.cons .non .nil), none_shaped, nones_shaped, _, rfl, ?_⟩
    rw [show ([PyData.none].any fun z => PyData.eqv z .none) = true by simp [PyData.eqv]]
    exact iteT (q _ (sS.trans s2))
theorem ok_ksi {f : Addr} {fd : FuncData} {e : Ex} {fR : Addr} (D : Df K mg "keys_in" ["text"] sKeysIn f fd) (T : Txt K mg C CL e) (cAi : Ca P w K mg base 6 "all_in" ["reader", "text"] (spAiN fR)) (gR : mg "key_in" = some (.ref fR)) : FnOk P w K mg base CX0 7 f fd ["text"] spNo := by
  refine D.fn.ok scKeysIn (fun vs H Q E h => ?_) (fun cdv A outer s H vs Q E hr h => ?_)
  · obtain ⟨x, rfl, bl, q⟩ := h
    rfl
  · obtain ⟨x, rfl, bl, q⟩ := h
    refine ⟨_, (pss_one (ps_ret (pe_ca cAi hr (by decide) (by rfl) (pa_cons (pe_glob (v := .ref fR) (by rfl) gR rfl) (pa_cons (pv 0) pa_nil))))), ?_⟩
    exact ⟨_, rfl, x, rfl, bl, q⟩
theorem ok_di2 {f : Addr} {fd : FuncData} {e : Ex} (D : Df K mg "disc_in" ["text"] sDiscIn f fd) (T : Txt K mg C CL e) (cKsi : Ca P w K mg base 7 "keys_in" ["text"] spNo) (cWd : Ca P w K mg base 3 "is_word" ["thing"] (spWord K)) : FnOk P w K mg base CX0 8 f fd ["text"] spNo := by
  refine D.fn.ok scDiscIn (fun vs H Q E h => ?_) (fun cdv A outer s H vs Q E hr h => ?_)
  · obtain ⟨x, rfl, bl, q⟩ := h
    rfl
  · obtain ⟨x, rfl, bl, q⟩ := h
    refine ⟨_, (pss_cons (ps_asg (pe_partition (pe_m1 F.slot_str_removeprefix F.type_str_removeprefix mt_removeprefix (pv 0) pe_str) pe_str) (pg_tup (by rfl) (pgs_cons (pg_name (i := 1) scDiscIn.nd rfl (.inl rfl)) (pgs_cons (pg_name (i := 2) scDiscIn.nd rfl (.inl rfl)) (pgs_cons (pg_name (i := 3) scDiscIn.nd rfl (.inl rfl)) pgs_nil)))))
      (pss_cons (ps_set (i := 4) scDiscIn.nd rfl (.inl rfl) (pe_ca cKsi hr (by decide) (by rfl) (pa_cons (pv 3) pa_nil)))
      (pss_cons (ps_if (PW.pt (pw_or (pt_not (pt_val (pe_ca cWd hr (by decide) (by rfl) (pa_cons (pv 1) pa_nil)))) (pw_or (pt_no) (pw_or1 (pt_no))))) (pss_one (ps_ret pe_non)) pss_nil)
      (pss_one (ps_no))))), ?_⟩
    have bp := bl_pre (y := "disc ") bl
    have ep := TL.partition_none (y := ": ") (s := 58) (S := [32]) (by decide +kernel) (a := Txt.removeprefix x "disc ") (fun m => by rcases bp.1 _ m with q | q <;> cases q)
    refine ⟨_, rfl, ⟨_, rfl⟩, x, "disc ", rfl, rfl, Nat.le_trans bl.2 (by decide), ⟨_, rfl⟩, _, ": ", rfl, rfl, rfl, Nat.le_trans (show _ ≤ 60000 by have := bp.2; omega) (by decide), fun p np => ?_⟩
    rw [ep]
    have sp := same_upd np (o := .tup [.str (Txt.removeprefix x "disc "), .str Str.empty, .str Str.empty])
    refine ⟨p, _, rfl, SqT.of upd_same, rfl, _, _, rfl, _, _, rfl, _, _, rfl, rfl, ?_⟩
    generalize L2.upd H p (.tup [.str (Txt.removeprefix x "disc "), .str Str.empty, .str Str.empty]) = H1 at sp ⊢
    refine ⟨_, rfl, Str.empty, rfl, bl_empty, fun H2 s2 => ?_⟩
    refine ⟨_, rfl, .str _, .str _, rfl, .str _, (fun y e => by cases e; exact Nat.le_trans bp.2 (by decide)), fun H3 s3 => ⟨_, rfl, ?_⟩⟩
    rw [bl_word bp]
    exact iteT (iteT (q _ ((sp.trans s2).trans s3)))
end
end K69
set_option Elab.async false
set_option linter.all false
set_option maxRecDepth 100000
set_option maxHeartbeats 4000000
set_option pp.maxSteps 400
set_option pp.deepTerms false
namespace K69
open PySem PySem.Spec PyProof.Rows L2
open Xk Az Xtx Xst
section
variable {P : Program} {w : World} {K : PySem.W.Frag} {mg : Str → Option Value} {base : Heap} {C CL : Addr}
theorem bl_strip {x : Str} (h : Bl x) : Bl (Txt.lstripChars x " ") := by
  have e := ls_list x
  refine ⟨fun c hc => h.1 c ?_, ?_⟩
  · have hc : c ∈ (Txt.lstripChars x " ").cps.toList := hc
    rw [e] at hc
    exact (List.dropWhile_sublist _).subset hc
  · rw [len_cps, e]
    have := (List.dropWhile_sublist (l := x.cps.toList) bl).length_le
    have h2 := h.2
    rw [len_cps x] at h2
    omega
theorem ok_wr {f : Addr} {fd : FuncData} {e : Ex} (D : Df K mg "work_row_in" ["text"] sWorkRowIn f fd) (T : Txt K mg C CL e) (cNi : Ca P w K mg base 5 "name_in" ["text"] spNo) : FnOk P w K mg base CX0 6 f fd ["text"] spNo := by
  obtain ⟨_, gKEY_PARTS⟩ := T.cKEY_PARTS
  obtain ⟨_, gLONGEST_WORD⟩ := T.cLONGEST_WORD
  obtain ⟨_, gLONGEST_CODE⟩ := T.cLONGEST_CODE
  obtain ⟨_, gMOST_PLAYERS⟩ := T.cMOST_PLAYERS
  obtain ⟨_, gLAST_YEAR⟩ := T.cLAST_YEAR
  obtain ⟨_, gMONTHS⟩ := T.cMONTHS
  obtain ⟨_, gFEBRUARY⟩ := T.cFEBRUARY
  obtain ⟨_, gMOST_SECONDS⟩ := T.cMOST_SECONDS
  obtain ⟨_, gSHORTEST_TONGUE⟩ := T.cSHORTEST_TONGUE
  obtain ⟨_, gLONGEST_TONGUE⟩ := T.cLONGEST_TONGUE
  obtain ⟨_, gLONGEST_TEXT⟩ := T.cLONGEST_TEXT
  obtain ⟨_, gMOST_FIGURES⟩ := T.cMOST_FIGURES
  obtain ⟨_, gDAY_PARTS⟩ := T.cDAY_PARTS
  obtain ⟨_, gYEAR_FIGURES⟩ := T.cYEAR_FIGURES
  obtain ⟨_, gSMALL_LETTERS⟩ := T.cSMALL_LETTERS
  obtain ⟨_, gTEXT_SIGNS⟩ := T.cTEXT_SIGNS
  obtain ⟨_, gFIGURES⟩ := T.cFIGURES
  obtain ⟨_, gCODE_SIGNS⟩ := T.cCODE_SIGNS
  obtain ⟨_, gI⟩ := T.ind
  refine D.fn.ok scWorkRowIn (fun vs H Q E h => ?_) (fun cdv A outer s H vs Q E hr h => ?_)
  · obtain ⟨x, rfl, b0, q⟩ := h
    rfl
  · obtain ⟨x, rfl, b0, q⟩ := h
    refine ⟨_, (pss_cons (ps_set (i := 1) scWorkRowIn.nd rfl (.inl rfl) (pe_m1 F.slot_str_lstrip F.type_str_lstrip mt_lstripChars (pv 0) pe_str))
      (pss_cons (ps_asg (pe_callB call_divmod (by rfl) T.divmod (by decide +kernel) (pa_cons (pe_op op_sub (pe_callB call_len_str (by rfl) T.len PySem.boot_len (pa_cons (pv 0) pa_nil)) (pe_callB call_len_str (by rfl) T.len PySem.boot_len (pa_cons (pv 1) pa_nil))) (pa_cons (pe_callB call_len_str (by rfl) T.len PySem.boot_len (pa_cons (pe_glob (v := .str "  ") (by rfl) gI ⟨_, rfl⟩) pa_nil)) pa_nil))) (pg_tup (by rfl) (pgs_cons (pg_name (i := 2) scWorkRowIn.nd rfl (.inl rfl)) (pgs_cons (pg_name (i := 3) scWorkRowIn.nd rfl (.inl rfl)) pgs_nil))))
      (pss_cons (ps_set (i := 4) scWorkRowIn.nd rfl (.inl rfl) (pe_ca cNi hr (by decide) (by rfl) (pa_cons (pv 1) pa_nil)))
      (pss_one (ps_ret (pe_ifExp (PW.pt (pw_or (pt_cmpR op_ne (pv 3) pe_int (nomark _)) (pw_or1 (pt_cmpR op_isN (pv 4) pe_non (nomark _))))) pe_non (pe_tup (pa_cons (pv 2) (pa_cons (pv 4) pa_nil))))))))), ?_⟩
    have b1 := bl_strip b0
    have sz : x.length ≤ sizeLine := Nat.le_trans b0.2 (by decide)
    have li : ("  " : Str).length = 2 := by decide +kernel
    refine ⟨_, rfl, ⟨_, rfl⟩, _, _, rfl, rfl, sz, ?_⟩
    refine ⟨_, rfl, x, rfl, sz, _, rfl, _, rfl, Nat.le_trans b1.2 (by decide), _, _, rfl, rfl, "  ", rfl, (by decide +kernel), _, _, rfl, ⟨by rw [li]; decide, by rw [li]; decide⟩, fun p np => ?_⟩
    have sp := same_upd np (o := .tup [.int (((x.length : Int) - ((Txt.lstripChars x " ").length : Int)) / ((("  " : Str).length : Nat) : Int)), .int (((x.length : Int) - ((Txt.lstripChars x " ").length : Int)) % ((("  " : Str).length : Nat) : Int))])
    refine ⟨p, _, rfl, SqT.of upd_same, rfl, _, _, rfl, _, _, rfl, rfl, ?_⟩
    refine ⟨_, rfl, _, rfl, b1, fun H' s' => ?_⟩
    have st := q _ (sp.trans s')
    refine ⟨_, rfl, rfl, _, rfl, ite2 (fun _ => iteT st) (fun _ => ⟨_, rfl, rfl, _, rfl, iteT st⟩)⟩
end
end K69
set_option Elab.async false
set_option linter.all false
set_option maxRecDepth 100000
set_option maxHeartbeats 4000000
set_option pp.maxSteps 400
set_option pp.deepTerms false
namespace K69
open PySem PySem.Spec PyProof.Rows L2
open Xk Az Xtx Xst
section
variable {P : Program} {w : World} {K : PySem.W.Frag} {mg : Str → Option Value} {base : Heap} {C CL : Addr}
structure Sd (P : Program) (w : World) (K : PySem.W.Frag) (mg : Str → Option Value) (base : Heap) (wd : Str) (e : Ex) (fR f : Addr) (fd : FuncData) : Prop where
  ok : FnOk P w K mg base (L2.CX P w) 10 f fd ["reader", "text", "wanted", "row"] (spSoN K wd e fR)
  mgf : mg "so_written" = some (.ref f)
  kp : PySem.W.keepIn K (.ref f) = true
  b1 : ∃ ds, Vals [.int 0] ds ∧ Binds K fd ["reader", "text", "wanted", "row"] ds
  b0 : Binds K fd ["reader", "text", "wanted", "row"] []
theorem sd_mk {e : Ex} {f fR : Addr} {fd : FuncData} {wd : Str} (F : FunD K "so_written" "so_written" (defArgs sSoWritten) (defBody sSoWritten) (defScope sSoWritten) [.int 0] [] f fd) (mgf : mg "so_written" = some (.ref f))
    (ok : FnOk P w K mg base (L2.CX P w) 10 f fd ["reader", "text", "wanted", "row"] (spSoN K wd e fR)) : Sd P w K mg base wd e fR f fd := by
  refine ⟨ok, mgf, F.kp, F.binds1 (ps := ["reader", "text", "wanted", "row"]) 3 0 (by simp) rfl fun T kV doc pm an cdv ct us its h1 h2 => by
    match us, its, h1, h2 with
    | [_, _, _], [_], _, _ => exact ⟨_, rfl, rfl⟩, ?_⟩
  obtain ⟨ds, r, b⟩ := F.binds1 (ps := ["reader", "text", "wanted", "row"]) 4 1 (by simp) rfl fun T kV doc pm an cdv ct us its h1 h2 => by
    match us, its, h1, h2 with
    | [_, _, _, _], [_], _, _ => exact ⟨_, rfl, rfl⟩
  cases r
  exact b
theorem ok_rday {f : Addr} {fd : FuncData} {e : Ex} {fR fS : Addr} {fdS : FuncData} (D : Df K mg "read_day" ["text"] sReadDay f fd) (T : Txt K mg C CL e) (S : Sd P w K mg base "day" e fR fS fdS) (gR : mg "day_in" = some (.ref fR)) : FnOk P w K mg base (L2.CX P w) 11 f fd ["text"] (spRdN K "day" e) := by
  obtain ⟨ds, rd, bd⟩ := S.b1
  refine D.fn.okX scReadDay (fun vs H Q E h => ?_) (fun cdv A outer s H vs Q E hr h => ?_)
  · obtain ⟨v, rfl, th, q⟩ := h
    rfl
  · obtain ⟨v, rfl, th, q⟩ := h
    refine ⟨_, (pss_one (ps_ret (pe_call S.ok (hr.mono (by decide)) (by rfl) S.mgf S.kp bd rd (passes_call (takes_of rfl rfl rfl rfl) (fun _ _ _ _ h => h)) (pa_cons (pe_glob (v := .ref fR) (by rfl) gR rfl) (pa_cons (pv 0) (pa_cons pe_str pa_nil)))))), ?_⟩
    exact ⟨_, rfl, v, 0, rfl, th, q⟩
theorem ok_rlen {f : Addr} {fd : FuncData} {e : Ex} {fR fS : Addr} {fdS : FuncData} (D : Df K mg "read_length" ["text"] sReadLength f fd) (T : Txt K mg C CL e) (S : Sd P w K mg base "length" e fR fS fdS) (gR : mg "length_in" = some (.ref fR)) : FnOk P w K mg base (L2.CX P w) 11 f fd ["text"] (spRdN K "length" e) := by
  obtain ⟨ds, rd, bd⟩ := S.b1
  refine D.fn.okX scReadLength (fun vs H Q E h => ?_) (fun cdv A outer s H vs Q E hr h => ?_)
  · obtain ⟨v, rfl, th, q⟩ := h
    rfl
  · obtain ⟨v, rfl, th, q⟩ := h
    refine ⟨_, (pss_one (ps_ret (pe_call S.ok (hr.mono (by decide)) (by rfl) S.mgf S.kp bd rd (passes_call (takes_of rfl rfl rfl rfl) (fun _ _ _ _ h => h)) (pa_cons (pe_glob (v := .ref fR) (by rfl) gR rfl) (pa_cons (pv 0) (pa_cons pe_str pa_nil)))))), ?_⟩
    exact ⟨_, rfl, v, 0, rfl, th, q⟩
theorem ok_rnam {f : Addr} {fd : FuncData} {e : Ex} {fR fS : Addr} {fdS : FuncData} (D : Df K mg "read_name" ["text"] sReadName f fd) (T : Txt K mg C CL e) (S : Sd P w K mg base "name" e fR fS fdS) (gR : mg "name_in" = some (.ref fR)) : FnOk P w K mg base (L2.CX P w) 11 f fd ["text"] (spRdN K "name" e) := by
  obtain ⟨ds, rd, bd⟩ := S.b1
  refine D.fn.okX scReadName (fun vs H Q E h => ?_) (fun cdv A outer s H vs Q E hr h => ?_)
  · obtain ⟨v, rfl, th, q⟩ := h
    rfl
  · obtain ⟨v, rfl, th, q⟩ := h
    refine ⟨_, (pss_one (ps_ret (pe_call S.ok (hr.mono (by decide)) (by rfl) S.mgf S.kp bd rd (passes_call (takes_of rfl rfl rfl rfl) (fun _ _ _ _ h => h)) (pa_cons (pe_glob (v := .ref fR) (by rfl) gR rfl) (pa_cons (pv 0) (pa_cons pe_str pa_nil)))))), ?_⟩
    exact ⟨_, rfl, v, 0, rfl, th, q⟩
theorem ok_rent {f : Addr} {fd : FuncData} {e : Ex} {fR fS : Addr} {fdS : FuncData} (D : Df K mg "read_entry" ["text"] sReadEntry f fd) (T : Txt K mg C CL e) (S : Sd P w K mg base "entry" e fR fS fdS) (gR : mg "entry_in" = some (.ref fR)) : FnOk P w K mg base (L2.CX P w) 11 f fd ["text"] (spRdN K "entry" e) := by
  obtain ⟨ds, rd, bd⟩ := S.b1
  refine D.fn.okX scReadEntry (fun vs H Q E h => ?_) (fun cdv A outer s H vs Q E hr h => ?_)
  · obtain ⟨v, rfl, th, q⟩ := h
    rfl
  · obtain ⟨v, rfl, th, q⟩ := h
    refine ⟨_, (pss_one (ps_ret (pe_call S.ok (hr.mono (by decide)) (by rfl) S.mgf S.kp bd rd (passes_call (takes_of rfl rfl rfl rfl) (fun _ _ _ _ h => h)) (pa_cons (pe_glob (v := .ref fR) (by rfl) gR rfl) (pa_cons (pv 0) (pa_cons pe_str pa_nil)))))), ?_⟩
    exact ⟨_, rfl, v, 0, rfl, th, q⟩
theorem ok_rdis {f : Addr} {fd : FuncData} {e : Ex} {fR fS : Addr} {fdS : FuncData} (D : Df K mg "read_disc" ["text"] sReadDisc f fd) (T : Txt K mg C CL e) (S : Sd P w K mg base "disc" e fR fS fdS) (gR : mg "disc_in" = some (.ref fR)) : FnOk P w K mg base (L2.CX P w) 11 f fd ["text"] (spRdN K "disc" e) := by
  obtain ⟨ds, rd, bd⟩ := S.b1
  refine D.fn.okX scReadDisc (fun vs H Q E h => ?_) (fun cdv A outer s H vs Q E hr h => ?_)
  · obtain ⟨v, rfl, th, q⟩ := h
    rfl
  · obtain ⟨v, rfl, th, q⟩ := h
    refine ⟨_, (pss_one (ps_ret (pe_call S.ok (hr.mono (by decide)) (by rfl) S.mgf S.kp bd rd (passes_call (takes_of rfl rfl rfl rfl) (fun _ _ _ _ h => h)) (pa_cons (pe_glob (v := .ref fR) (by rfl) gR rfl) (pa_cons (pv 0) (pa_cons pe_str pa_nil)))))), ?_⟩
    exact ⟨_, rfl, v, 0, rfl, th, q⟩
end
end K69
set_option Elab.async false
set_option linter.all false
set_option maxRecDepth 100000
set_option maxHeartbeats 4000000
set_option pp.maxSteps 400
set_option pp.deepTerms false
namespace K69
open PySem PySem.Spec PyProof.Rows L2
open Xk Az Xtx Xst
section
variable {P : Program} {w : World} {K : PySem.W.Frag} {mg : Str → Option Value} {base : Heap} {C CL : Addr}
theorem bl_first {x : Str} (h : Bl x) : ∃ p ps, Txt.split x "\n" = p :: ps ∧ Bl p := by
  have e := PySem.StrLaws.join_split x "\n"
  cases hs : Txt.split x "\n" with
  | nil =>
    have := split_pos (x := x) (y := "\n") (by decide +kernel) (by decide +kernel)
    rw [hs] at this
    exact absurd this (by decide)
  | cons p ps =>
    rw [hs] at e
    have e2 := TL.tl_join "\n" (p :: ps)
    rw [e] at e2
    have sub : ∃ t, TL.tl x = TL.tl p ++ t := by
      rw [e2]
      cases ps with
      | nil => exact ⟨[], by simp [TL.joinL]⟩
      | cons a r => exact ⟨_, by rw [List.map_cons, List.map_cons, TL.joinL]⟩
    obtain ⟨t, et⟩ := sub
    refine ⟨p, ps, rfl, fun c hc => h.1 c (by rw [et]; exact List.mem_append_left _ hc), ?_⟩
    have h2 := h.2
    rw [TL.len_tl, et, List.length_append] at h2
    rw [TL.len_tl]
    omega
theorem ok_rwork {f : Addr} {fd : FuncData} {e : Ex} {fN fR fS : Addr} {fdN fdS : FuncData} (D : Df K mg "read_work" ["text"] sReadWork f fd) (T : Txt K mg C CL e) (N : Nt P w K mg base e fN fdN) (S : Sd P w K mg base "work" e fR fS fdS) (gR : mg "work_row_in" = some (.ref fR)) : FnOk P w K mg base (L2.CX P w) 11 f fd ["text"] (spRdN K "work" e) := by
  refine D.fn.okX scReadWork (fun vs H Q E h => ?_) (fun cdv A outer s H vs Q E hr h => ?_)
  · obtain ⟨v, rfl, th, q⟩ := h
    rfl
  · obtain ⟨v, rfl, th, q⟩ := h
    refine ⟨_, (pss_cons (ps_if (pt_not (pt_val (pe_callB call_isi (by rfl) T.isi (by decide +kernel) (pa_cons (pv 0) (pa_cons (pe_bltn (v := .ty "str") (by rfl) T.str (by decide +kernel) rfl) pa_nil))))) (pss_one (ps_raise rfl (takes_of rfl rfl rfl rfl) (pmk_oex T.oex N.at_ N.ty N.ok (hr.mono (by decide)) N.bd .nil pass0 (by rfl) T.mNoText (pa_cons pe_int (pa_cons pe_str pa_nil))))) pss_nil)
      (pss_cons (ps_set (i := 1) scReadWork.nd rfl (.inl rfl) (pe_lst pa_nil))
      (pss_cons (ps_for (passes_of rfl) rfl (pi_enum (by rfl) T.enumerate (pa_cons (pe_m1 F.slot_str_split F.type_str_split mt_split (pv 0) pe_str) pa_nil)) (pg_tup (by rfl) (pgs_cons (pg_name (i := 2) scReadWork.nd rfl (.inl rfl)) (pgs_cons (pg_name (i := 3) scReadWork.nd rfl (.inl rfl)) pgs_nil))) (pss_cons (ps_set (i := 4) scReadWork.nd rfl (.inl rfl) (pe_call S.ok (hr.mono (by decide)) (by rfl) S.mgf S.kp S.b0 .nil (passes_call (takes_of rfl rfl rfl rfl) (fun _ _ _ _ h => h)) (pa_cons (pe_glob (v := .ref fR) (by rfl) gR rfl) (pa_cons (pv 3) (pa_cons pe_str (pa_cons (pv 2) pa_nil))))))
      (pss_cons (ps_no)
      (pss_one (ps_no)))))
      (pss_one (ps_no))))), ?_⟩
    rcases th with ⟨x, rfl, bl⟩ | ⟨ty, ht, kt⟩
    · have ty : TyX K H (.str x) (.type "str") := .base (.str _)
      refine ⟨_, rfl, _, _, _, _, true, rfl, .ty _, ty, kit_ty (by decide +kernel), _, rfl, iteF ⟨(by show 0 ≤ sizeLine; decide), fun R nR => ?_⟩⟩
      obtain ⟨p, ps, hp, bp⟩ := bl_first bl
      obtain ⟨pl1, pl2⟩ := split_len (x := x) (y := "\n") (by decide +kernel) (by decide +kernel)
      have sR := same_upd nR (o := .lst [])
      generalize L2.upd H R (.lst []) = H1 at sR ⊢
      refine ⟨_, rfl, ⟨_, rfl⟩, x, "\n", rfl, rfl, rfl, Nat.le_trans (show _ ≤ 60000 by have := bl.2; omega) (by decide), fun S0 nS => ?_⟩
      rw [hp]
      have sS := same_upd nS (o := .lst ((p :: ps).map V.str))
      have eS : (L2.upd H1 S0 (.lst ((p :: ps).map V.str))) S0 = some (.lst ((p :: ps).map V.str)) := upd_same
      generalize L2.upd H1 S0 (.lst ((p :: ps).map V.str)) = H2 at sS eS ⊢
      refine ⟨S0, _, rfl, SqL.of eS, ?_⟩
      refine for_it (walk_enum (K := K) (a := S0) (xs := (p :: ps).map V.str)) (fun i σ Hx => i = 0 ∧ Hx = H2 ∧ σ = [some (.str x), some (.ref R), none, none, none]) ⟨rfl, rfl, rfl⟩ (fun i σ Hx _ z => by rw [z.2.1]; exact SqL.of eS) ?_ ?_
      · rintro i x1 σ Hx H' il ⟨rfl, rfl, rfl⟩ ⟨t, y1, y2, rfl, nt, rfl, ex1, ey1⟩
        cases ex1
        replace ey1 : some (V.str p) = some y2 := ey1
        cases ey1
        have st := same_upd nt (o := .tup [.int (0 : Nat), .str p])
        have et : (L2.upd Hx t (.tup [.int (0 : Nat), .str p])) t = some (.tup [.int (0 : Nat), .str p]) := upd_same
        generalize L2.upd Hx t (.tup [.int (0 : Nat), .str p]) = H3 at st et ⊢
        refine ⟨t, _, rfl, SqT.of et, rfl, _, _, rfl, _, _, rfl, rfl, ?_⟩
        exact ⟨_, rfl, _, rfl, .str p, 0, rfl, .inl ⟨p, rfl, bp⟩, fun H4 s4 => q H4 (((sR.trans sS).trans st).trans s4)⟩
      · rintro σ Hx ⟨z, _⟩
        cases z
    · refine ⟨_, rfl, _, _, _, _, false, rfl, .ty _, ht, kt, _, rfl, iteT ⟨(by show 2 ≤ 1000; decide), raised (q H (Same.refl H))⟩⟩
end
end K69
set_option Elab.async false
set_option linter.all false
set_option maxRecDepth 100000
set_option maxHeartbeats 4000000
set_option pp.maxSteps 400
set_option pp.deepTerms false
/-! == of two empty dicts -/
namespace Xde
open PySem PySem.Spec PyProof.Rows L2
section
variable {X : Cx}
def rEqE : R2 := fun x y H Q => ∃ a b, x = .ref a ∧ y = .ref b ∧ H a = some (.dT []) ∧ H b = some (.dT []) ∧ Q (.bl true) H
theorem op_eqE (hu : X.A.units < cLine) : OpR X (compareOp .Eq) rEqE := by
  intro pins s σ H x y u v Q I rx ry h
  obtain ⟨a, b, rfl, rfl, ha, hb, q⟩ := h
  cases (show u = Value.ref a from rx)
  cases (show v = Value.ref b from ry)
  have em : ∀ c, H c = some (.dT []) → (c == sysModules) = false ∧ s.heap.DictOf (mixKind X.prog X.w) c [] := fun c hc => by
    obtain ⟨_, z, xs, r, o, es, ep, h1, h2, h3, h4, h5⟩ := (show ObjOk X.prog X.w H s.heap c (.dT []) from I.hok c _ hc)
    cases r
    refine ⟨z, o, es, ep, h1, h2, h3, fun e he => ?_, ?_, List.nodup_nil⟩
    · have : e ∈ es.toList := by simpa using he
      rw [h4] at this
      cases this
    · rw [h4]
      exact .nil
  show wpAny (model X.prog X.w) X.A (richCompare .Eq (.ref a) (.ref b)) _ _ s
  exact PySem.W.rcP_dicts (em a ha).1 (em b hb).1 (em a ha).2 (em b hb).2 hu (r := true) (fun _ => .nil) _ _ ⟨.bl true, H, I, rfl, q⟩
end
end Xde
set_option Elab.async false
set_option linter.all false
set_option maxRecDepth 100000
set_option maxHeartbeats 4000000
set_option pp.maxSteps 400
set_option pp.deepTerms false
/-! Tuples cut, put together, turned about, as lists, whatever the cases; a sign many times. -/
namespace Xtu
open PySem PySem.Spec PyProof.Rows L2
theorem same_upd {H : Hp} {p : Addr} {o : HO} (h : H p = none) : Same H (upd H p o) := fun b x e => by
  rw [upd_ne (ne_of_none e h)]
  exact e
section
variable {X : Cx}
def rSlU : V → Option Int → Option Int → Hp → VK → Prop := fun x lo hi H Q => ∃ a xs, x = .ref a ∧ H a = some (.tup xs) ∧ ∀ p H', L2.Same H H' → H' p = some (.tup (cutV xs lo hi)) → Q (.ref p) H'
theorem sl_tupU : SlR X rSlU := by
  intro pins s σ H x v vl vu lo hi sl Q I rx hs pl pu h
  obtain ⟨a, xs, rfl, e, q⟩ := h
  refine sl_tupA pins s σ H _ v vl vu lo hi sl Q I rx hs pl pu ⟨a, xs, rfl, SqT.of e, fun w => q a H (Same.refl H) ?_, fun _ p np => q p _ (same_upd np) upd_same⟩
  rw [e]
  unfold cutV
  rw [w.1, w.2, List.drop_zero, Nat.sub_zero, List.take_length]
def rCatU : R2 := fun x y H Q => ∃ a b xs ys, x = .ref a ∧ y = .ref b ∧ H a = some (.tup xs) ∧ H b = some (.tup ys) ∧ xs.length + ys.length ≤ sizeLine ∧ ∀ p H', L2.Same H H' → H' p = some (.tup (xs ++ ys)) → Q (.ref p) H'
theorem op_catU : OpR X (binaryOp .Add) rCatU := by
  intro pins s σ H x y v u Q I rx ry h
  obtain ⟨a, b, xs, ys, rfl, rfl, ea, eb, hz, q⟩ := h
  refine op_catA pins s σ H _ _ v u Q I rx ry ⟨a, b, xs, ys, rfl, rfl, SqT.of ea, SqT.of eb, hz, fun z => q b H (Same.refl H) ?_, fun _ z => q a H (Same.refl H) ?_, fun _ _ p np => q p _ (same_upd np) upd_same⟩
  · rw [z]; exact eb
  · rw [z, List.append_nil]; exact ea
end
section
variable {prog : Program} {w : World} {A : Around} {E : Value → Shared → Prop} {s : Shared}
theorem turnN {sl : Addr} {u : Tok} {n : Nat} {Q : Int × Int × Nat → Shared → Prop} (hs : s.heap.IsSliceOf sl .none .none (.int (-1) u)) (h : Q ((n : Int) - 1, -1, n) s) : wpAny (model prog w) A (Builtin.Slice.sliceApplied (.ref sl) (pure (n : Int))) Q E s := by
  obtain ⟨os, a1, a2, a3⟩ := id hs
  unfold Builtin.Slice.sliceApplied Builtin.Slice.sliceFields
  refine wpAny_bind (wpAny_bind (wpAny_field a1 a3 (x := .none) rfl (wpAny_bind (wpAny_field a1 a3 (x := .none) rfl (wpAny_bind (wpAny_field a1 a3 (x := .int (-1) u) rfl (wpAny_pure ?_)))))))
  refine wpAny_bind (slicePart_int ?_)
  show wpAny _ _ (if ((-1 : Int) == 0) = true then _ else _) _ _ s
  rw [if_neg (by decide)]
  have pl : Builtin.Slice.slicePlaces ((n : Int) - 1) (-1) (-1) = n := by
    unfold Builtin.Slice.slicePlaces
    have h1 : ¬ ((-1 : Int) > 0) := by decide
    simp only [h1, if_false, show (- -1 : Int) = 1 by decide, Int.ediv_one]
    split <;> omega
  refine wpAny_bind (slicePart_none (wpAny_bind (slicePart_none (wpAny_bind (wpAny_pure ?_)))))
  show wpAny _ _ (pure ((n : Int) - 1, (-1 : Int), Builtin.Slice.slicePlaces ((n : Int) - 1) (-1) (-1))) _ _ s
  rw [pl]
  exact wpAny_pure h
theorem fm_congr {α β : Type} {f g : α → Option β} : ∀ l : List α, (∀ m ∈ l, f m = g m) → l.filterMap f = l.filterMap g
  | [], _ => rfl
  | a :: r, h => by
    rw [List.filterMap_cons, List.filterMap_cons, h a List.mem_cons_self, fm_congr r fun m hm => h m (List.mem_cons_of_mem _ hm)]
theorem turn_all (xs : Array Value) : ((List.range xs.size).filterMap fun (m : Nat) => xs[((xs.size : Int) - 1 + (m : Int) * -1).toNat]?).toArray = xs.toList.reverse.toArray := by
  have e : ((List.range xs.size).filterMap fun (m : Nat) => xs[((xs.size : Int) - 1 + (m : Int) * -1).toNat]?) = ((List.range xs.size).map fun k => xs.size - 1 - k).filterMap (xs[·]?) := by
    rw [List.filterMap_map]
    refine fm_congr _ fun m hm => ?_
    have := List.mem_range.mp hm
    show xs[((xs.size : Int) - 1 + (m : Int) * -1).toNat]? = xs[xs.size - 1 - m]?
    congr 1
    omega
  rw [e, PySem.W.krv_range, List.filterMap_reverse, PySem.W.krv_all]
theorem itemN {t sl : Addr} {items : Array Value} {u : Tok} {Q : Value → Shared → Prop} (ht : IsTup s.heap t items) (hs : s.heap.IsSliceOf sl .none .none (.int (-1) u)) (hz : items.size ≤ sizeLine)
    (h : Q (.ref s.heap.objs.size) { s with heap := s.heap.push { cls := .type "tuple", data := .seq items.toList.reverse.toArray } }) : wpAny (model prog w) A (getItem (.ref t) (.ref sl)) Q E s := by
  have fits : sizeOk (.seq items.toList.reverse.toArray) := by
    show items.toList.reverse.toArray.size ≤ sizeLine
    rw [List.size_toArray, List.length_reverse, Array.length_toList]
    exact hz
  obtain ⟨os, a1, a2, a3⟩ := id hs
  have ty : s.TypeIs (.ref sl) "slice" := ⟨os, a1, a2⟩
  unfold getItem; try with_reducible refine wpAny_holding ?_
  (first | refine wpAny_bind (wpAny_pure ?_) | skip); refine wpAny_bind (wpAny_sequenceKey ht.typeIs (by decide) ?_)
  refine wpAny_bind (wpAny_callSpecial?_slot (name := Str.ofString "__getitem__") ht.typeIs PyProof.Rows.slot_tuple_getitem (wpAny_call_entry PyProof.Rows.slot_tuple_getitem ht.typeIs entry_tuple_getitem ?_ (args_tuple_getitem _ _)))
  show wpAny _ _ (Builtin.Tuple.tupleItemsOf (.ref t) >>= _) _ _ s; refine wpAny_bind (tupleItemsOf_ ht ?_)
  refine wpAny_bind (wpAny_typeOf ty ?_); rw [if_pos (by decide)]
  refine wpAny_bind (turnN hs ?_)
  show wpAny _ _ (if (((items.size : Int) - 1) == 0 && (-1 : Int) == 1 && (items.size == items.size)) = true then _ else _) _ _ s
  rw [if_neg (by simp), turn_all]
  (first
    | exact wpAny_bind (m := Builtin.Tuple.tupleExact _) (wpAny_newObj_type (wpAny_pure ⟨_, rfl, wpAny_pure h⟩) fits)
    | exact wpAny_bind (m := Builtin.Tuple.tupleExact _) (wpAny_newObj_type (wpAny_bind (wpAny_pure (wpAny_pure ⟨_, rfl, wpAny_pure h⟩))) fits)
    | exact wpAny_bind (wpAny_bind (m := Builtin.Tuple.tupleExact _) (wpAny_newObj_type (wpAny_pure (wpAny_pure ⟨_, rfl, wpAny_pure h⟩)) fits)))
end
section
variable {X : Cx}
def tRevN (K : PySem.W.Frag) (te : TE) : TE := fun σ H Q => te σ H fun x H1 => ∃ (a : Addr) (xs : List V), x = .ref a ∧ H1 a = some (.tup xs) ∧ ∀ p H', L2.Same H1 H' → H' p = some (.tup xs.reverse) → Q (.ref p) H'
theorem pe_revN {e : Expr} {te : TE} {k : Nat} {p1 p2 p3 pos : Pos} (he : PE X e te) : PE X (.Subscript e (.Slice none none (some (.UnaryOp .USub (.Constant (.int 1) k p1) p2)) p3) pos) (tRevN X.K te) := by
  refine ⟨fun pins s σ H Q I h => Subscript_ (thn (he.run pins s σ H _ I h) fun v s1 ⟨x, H1, I1, r1, a, xs, ex, hx, q⟩ => ?_)⟩
  subst ex; cases r1
  have hst : PO X (some (.UnaryOp .USub (.Constant (.int 1) k p1) p2)) (tPart (tUn (rU fun i => .int (-i)) (tC (.int 1)))) := po_some (pe_un un_neg pe_int)
  refine wpAny_Slice (thn (po_none.run pins s1 σ H1 (fun o G => o = none ∧ G = H1) I1 ⟨rfl, rfl⟩) fun vl s2 ⟨l, G, I2, pl, el, e2⟩ => ?_)
  subst el e2
  refine thn (po_none.run pins s2 σ G (fun o G2 => o = none ∧ G2 = G) I2 ⟨rfl, rfl⟩) fun vu s3 ⟨u, G2, I3, pu, eu, e3⟩ => ?_
  subst eu e3
  refine thn (hst.run pins s3 σ G2 (fun o G3 => o = some (-1) ∧ G3 = G2) I3 ⟨1, rfl, -1, rfl, rfl, rfl⟩) fun vs s4 ⟨o, G3, I4, ps, eo, e4⟩ => ?_
  subst eo e4
  cases pl; cases pu
  cases ps with
  | int _ tk =>
  have I5 : Inv X pins σ G3 { s4 with heap := s4.heap.push { cls := .type "slice", data := .fields #[.none, .none, .int (-1) tk] } } := I4.kept (t' := s4.toks) fun b ob q => Heap.get?_push_of_some _ q
  obtain ⟨its, r, ht, hz⟩ := I5.tuple (SqT.of hx)
  have hlen := r.length
  show wpAny (model X.prog X.w) X.A (subscriptTail e (.Slice none none (some (.UnaryOp .USub (.Constant (.int 1) k p1) p2)) p3) (.ref a) (.ref s4.heap.objs.size)) (EP X pins σ Q) X.xe { s4 with heap := s4.heap.push { cls := .type "slice", data := .fields #[.none, .none, .int (-1) tk] } }
  refine tail_any (ops := [.ref a, .ref s4.heap.objs.size]) ht.typeIs PyProof.Rows.slot_tuple_getitem.lookup ?_ (by with_unfolding_all rfl)
  refine itemN ht (Heap.IsSliceOf.new _ _ _ _) (by rw [List.size_toArray]; omega) ?_
  have nw := I5.hok.fresh (Nat.le_refl _)
  refine ⟨.ref _, _, I5.laid (t' := s4.toks) (o := .tup xs.reverse) (fun b ob q => Heap.get?_push_of_some _ q) (Nat.le_refl _) ?_, rfl, q _ _ (same_upd nw) upd_same⟩
  exact ⟨by rw [List.length_reverse]; exact hz, _, r.reverse, IsTup.new _ _⟩
/-- a list of a tuple's things, new -/
theorem cr_listT : CallR X (.type "list") (fun xs H Q => ∃ p ys, xs = [.ref p] ∧ SqT X.K H p ys ∧ ∀ l, H l = none → l ≠ sysModules → Q (.ref l) (upd H l (.lst ys))) := by
  intro pins s σ H xs us Q I r h
  obtain ⟨p, ys, rfl, hq, q⟩ := h
  obtain ⟨u, rfl, rx⟩ := vals1 r; cases rx
  obtain ⟨its, r', ⟨o, ho, hc, n, hd⟩, hz⟩ := I.tuple hq
  have hlen := r'.length
  exact call_list_seq p (.inr rfl) ho hc hd (fun h' c' kp e => ⟨.ref s.heap.objs.size, _, I.laid (t' := s.toks) kp (Nat.le_refl _) (show ObjOk X.prog X.w _ h' _ (.lst ys) from ⟨hz, its, c', r', e⟩), rfl, q _ (I.hok.fresh (Nat.le_refl _)) (Nat.ne_of_gt I.big)⟩) (by simp only [List.size_toArray]; omega)
end
section
variable {X : Cx}
/-- "x" * 41 -/
theorem op_x41 : OpR X (binaryOp .Mult) (fun x y H Q => x = .str "x" ∧ y = .int 41 ∧ ∀ z : Str, z.length = 41 → (∀ c ∈ z.cps.toList, c = 120) → Q (.str z) H) := by
  intro pins s σ H x y v u Q I rx ry h
  obtain ⟨rfl, rfl, q⟩ := h
  obtain ⟨t, rfl⟩ := rx
  obtain ⟨t2, rfl⟩ := ry
  refine PySem.P.mul_str (by decide) (fun _ _ => by decide +kernel) (fun _ _ => by decide +kernel) ⟨by decide +kernel, .str ⟨(List.replicate 41 ("x" : Str).cps).foldl (· ++ ·) #[]⟩, H, I.tok _, ⟨_, rfl⟩, q _ (by decide +kernel) (by decide +kernel)⟩
end
end Xtu
set_option Elab.async false
set_option linter.all false
set_option maxRecDepth 100000
set_option maxHeartbeats 4000000
set_option pp.maxSteps 400
set_option pp.deepTerms false
/-! list.extend(tuple); o.m(a=e) by keywords alone -/
namespace Xex
open PySem PySem.Spec PyProof.Rows L2
theorem ext_tup (p : Addr) (us : Array Value) (k : Nat) (r : Addr) (ws : Array Value) (j : Nat) (di : Option Addr) (so : Array (Option Value)) (e0 : ¬(!us.isEmpty && Builtin.List.listTooLong (us.size + ws.size)) = true) (e1 : us.size ≤ sizeLine) (e2 : us.size + ws.size ≤ sizeLine + 1) :
    Meets (Builtin.«list.extend» ⟨[Value.ref p, Value.ref r], []⟩) (fun _ R z => z.heap.get? p = some { cls := .type "list", dict := none, data := .seq us k, slots := #[] } ∧ z.heap.get? r = some { cls := .type "tuple", dict := di, data := .seq ws j, slots := so } ∧ R (.ok (.ret Value.none)) { z with heap := z.heap.update p (Obj.mapSeq fun y => y ++ ws), toks := z.toks }) :=
  .of_wp fun prog w A R z h => by
    obtain ⟨hp, g, d, tk, os⟩ := z
    obtain ⟨h1, h2, h⟩ := h
    have fa := AutoSeq1.idx_int
    have fb := AutoSeq1.sub_tuple_tuple
    have fc := AutoSeq1.sub_list_list
    have fd := AutoSeq1.sub_tuple_list
    have fe := AutoSeq1.sub_list_tuple
    have big : (us ++ ws).size ≤ sizeLine + 1 := by
      rw [Array.size_append]
      exact e2
    wp_walk using (wpAny_updateSeq h1 rfl (hz := e1) (_hz' := big)), wpAny_loadPart' h1, wpAny_loadPart' h2
    exact ⟨_, rfl, h⟩
section
variable {X : Cx}
def rExtT : V → List V → Hp → VK → Prop := fun x ys H Q => ∃ p r as bs, x = .ref p ∧ ys = [.ref r] ∧ H p = some (.lst as) ∧ H r = some (.tup bs) ∧ as.length + bs.length ≤ sizeLine ∧ Q .non (upd H p (.lst (as ++ bs)))
theorem mt_extT : MtM X "list.extend" rExtT := by
  intro pins s σ H x ys v us Q I rx rv h
  obtain ⟨p, r, as, bs, rfl, rfl, eP, eR, hz, q⟩ := h
  cases rx
  obtain ⟨u, rfl, ru⟩ := rv.one
  cases ru
  obtain ⟨z, its, n, ra, hl, e⟩ := I.lstM eP
  have okR : ObjOk X.prog X.w H s.heap r (.tup bs) := I.hok r _ eR
  obtain ⟨_, jts, rb, ⟨oc, od, oda, osl⟩, eh, ec, m, ed⟩ := okR
  dsimp only at ec ed
  subst ec ed
  have lb := rb.length
  have fits : its.toArray.size + jts.toArray.size ≤ sizeLine := by
    rw [List.size_toArray, List.size_toArray]
    omega
  have few : ¬ (!its.toArray.isEmpty && Builtin.List.listTooLong (its.toArray.size + jts.toArray.size)) = true := by
    rw [notLongL fits, Bool.and_false]
    exact Bool.false_ne_true
  refine call_meets F.slot_list_extend ⟨_, e, rfl⟩ F.entry_list_extend (F.args_list_extend_2 _ _) (ext_tup p its.toArray n r jts.toArray m od osl few (by rw [List.size_toArray]; omega) (by omega)) ⟨e, eh, ?_⟩
  refine ⟨.non, _, I.lset (its' := its ++ jts) eP e (by simp) (ra.append rb) ?_, rfl, q⟩
  rw [List.length_append]
  omega
end
section
variable {X : Cx} {CX : CXT} {k : Nat} {f C : Addr} {fd : FuncData} {ps ks : List Str} {sp : Sp} {E : XK} {m : Str} {o : Expr} {apos pos : Pos} {kws : List Keyword} {ta : TE} {tk : TA} {g : List Value → List Value → List Value} {gV : List V → List V → List V}
def tMethK (C : Addr) (m : Str) (n : Nat) (sp : Sp) (gV : List V → List V → List V) (E : XK) (ta : TE) (tk : TA) : TE := fun σ H Q => ta σ H fun x H1 => ∃ a dx fs, x = .ref a ∧ H1 a = some (.ins C dx fs) ∧ fs.lookup m = none ∧ tk σ H1 fun zs H2 => zs.length = n ∧ sp (gV [x] zs) H2 Q E
theorem pe_methK {pl : Sem Bool} (he : PE X o ta) (c : Cls X.K C) (hm : Meth X.K C m f) (F : FnOk X.prog X.w X.K X.mg X.base CX k f fd ps sp) (room : Room k X.A) (kb : KBn X.K fd ps 1 ks g gV) (px : Passes CX X E) (pk : PK X kws tk)
    (hall : (backToKw pos (keywordEach kws X.env)).all (·.1.isSome) = true := by rfl) (hks : (backToKw pos (keywordEach kws X.env)).filterMap (·.1) = ks := by rfl)
    (hpl : ((backTo pos (starEach [] X.env)).any (·.1) || (backToKw pos (keywordEach kws X.env)).any (·.1.isNone)) = false := by rfl)
    (ht : eval (.Call (.Attribute o m apos) [] kws pos) X.env = (do
      let ov ← eval o X.env
      standAt apos.atName
      let (fn, fst) ← holding [ov] (getMethod ov m pl)
      callWith pos fn fst (backTo pos (starEach [] X.env)) (backToKw pos (keywordEach kws X.env))) := by rfl) :
    PE X (.Call (.Attribute o m apos) [] kws pos) (tMethK C m ks.length sp gV E ta tk) := by
  refine ⟨fun pins s σ H Q I h => ?_⟩
  refine PySem.W.methodCall_KW (pl := pl) (thn (he.run pins s σ H _ I h) fun u s1 ⟨x, H1, I1, rx, a, dx, fs, ex, ea, l, q⟩ => ?_) ht
  subst ex
  obtain rfl : u = Value.ref a := rx
  refine getmeth_ok I1 ea c hm l ?_
  refine PySem.W.callWith_KW0 (first := [.ref a]) (h₀ := X.base) I.ok.mod.kin hm.kp hall (thn (pk.run pos pins s1 σ H1 _ I1 q) fun ws s2 z => ?_) hpl
  obtain ⟨zs, H2, I2, rz, l2, q2⟩ := z
  refine ⟨I2.kIn, ?_⟩
  rw [hks]
  exact run_fnN (us := [.ref a]) (vs := [.ref a]) F room kb px I2 (.cons rfl .nil) rz rfl l2 q2
end
end Xex
set_option Elab.async false
set_option linter.all false
set_option maxRecDepth 100000
set_option maxHeartbeats 4000000
set_option pp.maxSteps 400
set_option pp.deepTerms false
/-! sorted(xs, key=o.m): the key a bound method; o.m as a value -/
namespace Xsm
open PySem PySem.Spec PyProof.Rows L2
/-! ## sorted(xs, key=f), f a def of the text, xs a list or a tuple -/
/-- the items that list() would give: of a list, of a tuple -/
theorem collect_seq {prog : Program} {w : World} {A : Around} {E : Value → Shared → Prop} {s : Shared} {l : Addr} {o : Obj} {vs : List Value} {n : Nat} {T : String} {Q : List Value → Shared → Prop}
    (ho : s.heap.get? l = some o) (hT : T = "list" ∨ T = "tuple") (hc : o.cls = .type T) (hd : o.data = .seq vs.toArray n) (hz : vs.length ≤ sizeLine)
    (h : Q vs { s with heap := (s.heap.push (seqObj "list" #[] 0)).update s.heap.objs.size (Obj.mapSeq (· ++ vs.toArray)) }) : wpAny (model prog w) A (collect (.ref l)) Q E s := by
  unfold collect
  refine wpAny_bind (wpAny_runValue (codeAny_builtin entry_proto_collect' ?_))
  show wpAny _ _ (do again (.builtin "list.__iadd__" ⟨[← newList [], .ref l], []⟩)) _ _ s
  refine wpAny_bind (wpAny_newList (wpAny_pure ⟨Code.quiet_builtin _ (by decide +kernel), codeAny_builtin entry_list_iadd' ?_⟩))
  show wpAny _ _ (Builtin.List.listExtendWith (.ref s.heap.objs.size) (.ref l) (.ref s.heap.objs.size)) _ _ { s with heap := s.heap.push (seqObj "list" #[] 0) }
  unfold Builtin.List.listExtendWith
  have at_l : (s.heap.push (seqObj "list" #[] 0)).get? l = some o := Heap.get?_push_of_some _ ho
  have at_n : (s.heap.push (seqObj "list" #[] 0)).get? s.heap.objs.size = some (seqObj "list" #[] 0) := Heap.get?_push_size _ rfl
  refine wpAny_bind (wpAny_typeOf (T := T) ⟨o, at_l, hc⟩ ?_)
  have yes : (Builtin.List.listSameRef (.ref s.heap.objs.size) (.ref l) || Value.type T == Value.type "list" || Value.type T == Value.type "tuple") = true := by
    rcases hT with rfl | rfl
    · rw [show (Value.type "list" == Value.type "list") = true from rfl]
      simp
    · rw [show (Value.type "tuple" == Value.type "tuple") = true from rfl]
      simp
  rw [if_pos yes]
  refine wpAny_bind (listItems_at at_l hd ?_)
  refine wpAny_bind (listItems_at (xs := #[]) (n := 0) at_n rfl ?_)
  rw [if_neg (by simp)]
  refine wpAny_bind (listUpdate_at (xs := #[]) (n := 0) at_n rfl ?_ (Nat.zero_le _) ?_)
  · refine wpAny_pure ?_
    show wpAny (model prog w) A (do
        let ob ← load s.heap.objs.size
        match ob.data with
        | .seq xs _ => pure xs.toList
        | _ => unsupported "internal:collect") Q E { s with heap := (s.heap.push (seqObj "list" #[] 0)).update s.heap.objs.size (Obj.mapSeq (· ++ vs.toArray)) }
    refine wpAny_bind (wpAny_load (get?_update_seq at_n _) ?_)
    have e : ((#[] : Array Value) ++ vs.toArray).toList = vs := by simp
    show wpAny _ _ (pure ((#[] : Array Value) ++ vs.toArray).toList) Q E _
    rw [e]
    exact wpAny_pure h
  · show (#[] ++ vs.toArray).size ≤ sizeLine + 1
    simp only [Array.size_append, List.size_toArray, List.length_nil]
    omega
/-- sorted(xs, ..) is the sort of a new list -/
theorem sorted_seq {prog : Program} {w : World} {A : Around} {E : Value → Shared → Prop} {s : Shared} {l : Addr} {o : Obj} {vs : List Value} {n : Nat} {T : String} {kw : List (Str × Value)} {Q : Value → Shared → Prop}
    (ho : s.heap.get? l = some o) (hT : T = "list" ∨ T = "tuple") (hc : o.cls = .type T) (hd : o.data = .seq vs.toArray n) (hz : vs.length ≤ sizeLine)
    (ha1 : argsOk "sorted" ⟨[.ref l], kw⟩) (ha2 : ∀ x, argsOk "list.sort" ⟨[.ref x], kw⟩)
    (body : ∀ E' : Value → Shared → Prop, wpAny (model prog w) A.in1.in1 (Builtin.«list.sort» ⟨[.ref (s.heap.objs.size + 1)], kw⟩)
      (fun f s' => f = .done (.ret .none) ∧ Q (.ref (s.heap.objs.size + 1)) s') E' { s with heap := PySem.W.copyHeap s.heap vs }) :
    wpAny (model prog w) A (call (.builtin "sorted") [.ref l] kw) Q E s := by
  refine PyProof.Rows.call_function_entry_kw kind_sorted plain_sorted entry_sorted ha1 ?_
  unfold Builtin.«sorted»
  refine wpAny_bind (m := checkCount "sorted" 1 1 _) (wpAny_pure ?_)
  refine wpAny_bind (collect_seq ho hT hc hd hz (wpAny_bind (wpAny_newList ?_ hz)))
  have sz : ((s.heap.push (seqObj "list" #[] 0)).update s.heap.objs.size (Obj.mapSeq (· ++ vs.toArray))).objs.size = s.heap.objs.size + 1 := by
    rw [Heap.size_update, size_push']
  show wpAny _ _ _ _ _ { s with heap := PySem.W.copyHeap s.heap vs }
  rw [sz]
  refine wpAny_bind (wpAny_holding (wpAny_call_entry_kw slot_list_sort ⟨_, PySem.W.copyHeap_at s.heap vs, rfl⟩ entry_list_sort ?body (ha2 _)))
  case body =>
    refine wpAny_mono (body _) (fun f s' hf => ?_) fun _ _ e => e
    obtain ⟨rfl, hq⟩ := hf
    exact ⟨_, rfl, wpAny_pure ⟨_, rfl, hq⟩⟩
theorem sqT_same {K : PySem.W.Frag} {H H' : Hp} (s : Same H H') {t : Addr} {xs : List V} (q : SqT K H t xs) : SqT K H' t xs := by
  rcases q with (q | ⟨o, q⟩) | q
  · exact .inl (.inl (s _ _ q))
  · exact .inl (.inr ⟨o, s _ _ q⟩)
  · exact .inr q
section
variable {K : PySem.W.Frag} {H H' : Hp}
mutual
theorem dp_same (s : Same H H') : ∀ (d : PyData) (v : V), Dp K H v d → Dp K H' v d
  | .none, _, h => by
    cases h
    exact .non
  | .bool b, _, h => by
    cases h
    exact .bl b
  | .int i, _, h => by
    cases h
    exact .int i
  | .str x, _, h => by
    cases h
    exact .str x
  | .list ds, _, h => by
    cases h with
    | lst q r => exact .lst (s.seq q) (dpAll_same s ds _ r)
  | .tuple ds, _, h => by
    cases h with
    | tup q r => exact .tup (sqT_same s q) (dpAll_same s ds _ r)
  | .dict _, _, h => by cases h
theorem dpAll_same (s : Same H H') : ∀ (ds : List PyData) (vs : List V), DpAll K H vs ds → DpAll K H' vs ds
  | [], _, h => by
    cases h
    exact .nil
  | d :: ds, _, h => by
    cases h with
    | cons q r => exact .cons (dp_same s d _ q) (dpAll_same s ds _ r)
end
end
section
variable {X : Cx} {pins : List (Addr × Obj)} {σ : L2.St} {H : Hp}
/-- what stands beside the heap's own things, behind a call -/
theorem fp_on {H' : Hp} {b : Addr} (f : FpOk X pins H b) (n : H' b = none) : FpOk X pins H' b := ⟨n, f.2⟩
theorem fp_stack {s : Shared} {b : Addr} (I : Inv X pins σ H s) (f : FpOk X pins H b) : b ∉ frs X.stack := fun z => by
  rcases List.mem_cons.mp (I.stkSub b z) with e | e
  · exact f.2.1 e
  · exact f.2.2.1 e
/-- an object of nobody's becomes a list of ours, another is let go -/
theorem Inv.take {s : Shared} {h' : Heap} {a kS : Addr} {ys : List V} {out : List Value} {c t' : Nat} (I : Inv X pins σ H s) (fa : FpOk X pins H a) (fk : FpOk X pins H kS) (keep : ∀ b o, b ≠ a → b ≠ kS → s.heap.get? b = some o → h'.get? b = some o)
    (hz : ys.length ≤ sizeLine) (rv : Vals ys out) (na : h'.get? a = some (seqObj "list" out.toArray c)) : Inv X pins σ (upd H a (.lst ys)) { s with heap := h', toks := t' } := by
  have ne : ∀ b o, H b = some o → b ≠ a ∧ b ≠ kS := fun b o e => ⟨ne_of_none e fa.1, ne_of_none e fk.1⟩
  have off : ∀ {b : Addr}, b ∉ [a, kS] → b ≠ a ∧ b ≠ kS := fun {b} z => ⟨fun q => z (by simp [q]), fun q => z (by simp [q])⟩
  have u : Un (frs X.stack) [a, kS] H (upd H a (.lst ys)) s.heap h' := by
    refine ⟨fun b o e n _ hx => keep b o (off hx).1 (off hx).2 e, fun b o e n _ hx => ⟨o.slots, keep b o (off hx).1 (off hx).2 e⟩, fun b o e n hx => ?_, fun b o e hx => ⟨o, keep b o (off hx).1 (off hx).2 e⟩, fun b zs e => ?_, fun b o z e => ?_, fun b ps e => ⟨#[], ?_⟩⟩
    · rw [upd_ne (off hx).1]
      exact n
    · rw [upd_ne (ne _ _ e).1]
      exact e
    · rw [upd_ne (ne _ _ e).1]
      exact e
    · rw [upd_ne (ne _ _ e).1, e]
      simp
  have ok : HOk X.prog X.w (upd H a (.lst ys)) h' := fun b o e => by
    by_cases hb : b = a
    · subst hb
      rw [upd_same] at e
      cases e
      exact ⟨hz, out, c, rv, na⟩
    · rw [upd_ne hb] at e
      refine (I.hok b o e).stay (fun z v hz' q => ?_) (fun z q => ?_) fun z zs q => ?_
      · have nz : z ≠ a ∧ z ≠ kS := by
          rcases hz' with e1 | e1
          · rw [e1]
            exact ne _ _ e
          · exact ne _ _ e1
        exact keep z v nz.1 nz.2 q
      · rw [upd_ne (ne _ _ q).1]
        exact q
      · rw [upd_ne (ne _ _ q).1]
        exact q
  refine I.call (g' := s.gens) (d' := s.drawn) (t' := t') (ch := [a, kS]) u ok I.bare fun b hb => ?_
  rcases List.mem_cons.mp hb with e | e
  · rw [e]
    exact ⟨fa.2.2.2.1, fa.2.1, fa.2.2.2.2.1, fa.2.2.2.2.2⟩
  · rw [List.mem_singleton.mp e]
    exact ⟨fk.2.2.2.1, fk.2.1, fk.2.2.2.2.1, fk.2.2.2.2.2⟩
theorem vals_each : ∀ {xs : List V} {vs : List Value}, Vals xs vs → PySem.W.EachIs (fun v x => RelV x v) vs xs
  | _, _, .nil => .nil
  | _, _, .cons r t => .cons r (vals_each t)
theorem each_vals : ∀ {xs : List V} {vs : List Value}, PySem.W.EachIs (fun v x => RelV x v) vs xs → Vals xs vs
  | _, _, .nil => .nil
  | _, _, .cons r t => .cons r (each_vals t)
end
section
variable {X : Cx} {f g sf : Addr} {pins : List (Addr × Obj)} {σ : L2.St} {H : Hp} {k : Nat} {fd : FuncData} {ps : List Str} {sp : Sp} {kd : V → PyData} {xs : List V}
/-- what the key's def promises of the items -/
def KeyOk (X : Cx) (sf : Addr) (sp : Sp) (H : Hp) (xs : List V) (kd : V → PyData) : Prop :=
  ∀ (H' : Hp) (Q : VK), Same H H' → ∀ x ∈ xs, (∀ v H2, Same H' H2 → Dp X.K H2 v (kd x) → Q v H2) → sp [.ref sf, x] H' Q E0
theorem each_get {α β : Type} {R : α → β → Prop} : ∀ {as : List α} {bs : List β} {i : Nat} {a : α}, PySem.W.EachIs R as bs → as[i]? = some a → ∃ b, bs[i]? = some b ∧ R a b
  | _, _, _, _, .nil, e => by simp at e
  | _, _, 0, _, .cons r _, e => by
    simp at e
    subst e
    exact ⟨_, rfl, r⟩
  | _, _, i + 1, a, .cons _ t, e => by
    obtain ⟨b, h1, h2⟩ := each_get (i := i) (a := a) t (by simpa using e)
    exact ⟨b, by simpa using h1, h2⟩
theorem each_more {α β : Type} {R : α → β → Prop} : ∀ {as : List α} {bs : List β} {a : α} {b : β}, PySem.W.EachIs R as bs → R a b → PySem.W.EachIs R (as ++ [a]) (bs ++ [b])
  | _, _, _, _, .nil, r => .cons r .nil
  | _, _, _, _, .cons q t, r => .cons q (each_more t r)
theorem each_mono {α β : Type} {R S : α → β → Prop} (h : ∀ a b, R a b → S a b) : ∀ {as : List α} {bs : List β}, PySem.W.EachIs R as bs → PySem.W.EachIs S as bs
  | _, _, .nil => .nil
  | _, _, .cons r t => .cons (h _ _ r) (each_mono h t)
theorem each_len {α β : Type} {R : α → β → Prop} : ∀ {as : List α} {bs : List β}, PySem.W.EachIs R as bs → as.length = bs.length
  | _, _, .nil => rfl
  | _, _, .cons _ t => congrArg Nat.succ (each_len t)
theorem keyI_rest {A : Around} {E : Value → Shared → Prop} {s : Shared} {a kS : Addr} {e1 : Nat} {vs : List Value} {P : PySem.Fin → Shared → Prop} (fr : A.frames = some X.stack) (room : Room k A)
    (F : FnOk X.prog X.w X.K X.mg X.base CX0 k g fd ps sp) (eq_ : H f = some (.met g sf)) (bd : Binds X.K fd ps []) (ok : KeyOk X sf sp H xs kd) (I : Inv X pins σ H s) (fa : FpOk X pins H a) (fk : FpOk X pins H kS) (hka : kS ≠ a) (rv : Vals xs vs)
    (nk : s.heap.get? kS = some (seqObj "list" #[] 0)) (na : s.heap.get? a = some (seqObj "list" #[] e1)) (hz : vs.length ≤ sizeLine)
    (hal : PySem.W.AllAlike (xs.map kd)) (hsk : PySem.W.Sortable (xs.map kd)) (hu : ∀ d, d ∈ xs.map kd → A.units + d.depth < cLine)
    (h : ∀ s' H', Inv X pins σ (upd H' a (.lst (xs.mergeSort (PySem.W.dataLe false kd)))) s' → Same H H' → H' a = none → P (.done (.ret .none)) s') :
    wpAny (model X.prog X.w) A (ksk_rest a (.ref f) false vs.toArray e1 (.ref kS)) P E s := by
  have hlen : xs.length = vs.length := rv.length
  unfold ksk_rest
  refine wpAny_bind (wpAny_rule ?_)
  rw [List.forIn_toArray]
  refine wpAny_bind (ksk_fold (fun i s' => ∃ (H' : Hp) (kA : Array Value) (e : Nat), Inv X pins σ H' s' ∧ Same H H' ∧ H' kS = none ∧ H' a = none ∧ s'.heap.get? kS = some (seqObj "list" kA e) ∧ s'.heap.get? a = some (seqObj "list" #[] e1) ∧
    PySem.W.EachIs (fun v d => ∃ y, RelV y v ∧ Dp X.K H' y d) kA.toList ((xs.map kd).take i)) vs 0 s ⟨H, #[], 0, I, Same.refl H, fk.1, fa.1, nk, na, by rw [List.take_zero]; exact .nil⟩ ?step ?done)
  case step =>
    rintro j u s1 hx ⟨H1, kA, e, I1, sm, hk0, ha0, nk1, na1, hks⟩
    simp only [Nat.zero_add] at hks ⊢
    obtain ⟨x, hxj, rx⟩ := each_get (vals_each rv) hx
    have hxm : x ∈ xs := List.mem_of_getElem? hxj
    have fk1 := fp_on fk hk0
    have fa1 := fp_on fa ha0
    have hsp := ok H1 (fun v H2 => Same H1 H2 ∧ Dp X.K H2 v (kd x)) sm x hxm fun v H2 s2 d2 => ⟨s2, d2⟩
    have en : Env0 X.prog X.w X.K X.mg X.base A X.stack s1 H1 := by
      have z := I1.env0
      exact ⟨fr, z.mod, z.bs, z.bsz, z.funs, z.frf, z.hok, z.bare⟩
    have hl1 : [V.ref sf, x].length = ps.length := F.len _ _ _ _ hsp
    have b1 := bd s1 [.ref sf, u] I1.kIn (by simpa using hl1)
    rw [List.append_nil] at b1
    have hkz : kA.size ≤ vs.length := by
      have z := each_len hks
      rw [Array.length_toList, List.length_take, List.length_map] at z
      omega
    refine wpAny_bind (wpAny_attempt (wpAny_call (codeAny_mono (call_met I1 (sm _ _ eq_) (F.run A X.stack s1 H1 ⟨[.ref sf, u], []⟩ [.ref sf, u] [.ref sf, x] _ E0 room en b1 (.cons rfl (.cons rx .nil)) hsp)) fun r s2 hr => ?_)))
    match r, hr with
    | .error z, hr => exact False.elim hr
    | .ok .next, hr => exact False.elim hr
    | .ok .brk, hr => exact False.elim hr
    | .ok .cont, hr => exact False.elim hr
    | .ok (.ret v), hr =>
      obtain ⟨y, H2, os, bare, un, hok, ry, sm2, dp2⟩ := hr
      obtain ⟨h2, g2, d2, t2, os2⟩ := s2
      obtain rfl : os2 = s1.os := os
      have I2 : Inv X pins σ H2 _ := I1.call (h' := h2) (g' := g2) (d' := d2) (t' := t2) (ch := []) un hok bare fun b z => absurd z List.not_mem_nil
      have nk2 : h2.get? kS = some (seqObj "list" kA e) := un.keep _ _ nk1 hk0 (fp_stack I1 fk1) List.not_mem_nil
      have na2 : h2.get? a = some (seqObj "list" #[] e1) := un.keep _ _ na1 ha0 (fp_stack I1 fa1) List.not_mem_nil
      have hk2 : H2 kS = none := un.free _ _ nk1 hk0 List.not_mem_nil
      have ha2 : H2 a = none := un.free _ _ na1 ha0 List.not_mem_nil
      have sb := Heap.SameBut.update h2 kS (Obj.mapSeq (·.push v))
      obtain ⟨c2, hc2⟩ : ∃ c2, (h2.update kS (Obj.mapSeq (·.push v))).get? kS = some (seqObj "list" (kA.push v) c2) := ⟨_, get?_update_seq nk2 (·.push v)⟩
      refine wpAny_bind (listUpdate_at (s := ⟨h2, g2, d2, t2, s1.os⟩) nk2 rfl ?_ (Nat.le_trans hkz hz) (by rw [Array.size_push]; omega))
      refine wpAny_pure ⟨rfl, H2, kA.push v, c2, ?_, sm.trans sm2, hk2, ha2, hc2, (sb.2 a hka.symm).trans na2, ?_⟩
      · refine Inv.turnedL (ch := [kS]) (t' := t2) I2 (fun b o hb q => (sb.2 b fun z => hb (by simp [z])).trans q) fun b hb => ?_
        rw [List.mem_singleton.mp hb]
        exact fp_on fk1 hk2
      · have ek : (xs.map kd).take (j + 1) = (xs.map kd).take j ++ [kd x] := by
          rw [List.take_add_one, List.getElem?_map, hxj]
          rfl
        rw [ek, Array.toList_push]
        refine each_more (each_mono (fun w d q => ?_) hks) ⟨y, ry, dp2⟩
        obtain ⟨z, rz, dz⟩ := q
        exact ⟨z, rz, dp_same sm2 _ _ dz⟩
  case done =>
    rintro s1 ⟨H1, kA, e, I1, sm, hk0, ha0, nk1, na1, hks⟩
    rw [Nat.zero_add, List.take_of_length_le (by rw [List.length_map]; omega)] at hks
    have hk' : PySem.W.EachIs (fun v d => ∃ as, Reads s1.heap v d as) kA.toList (xs.map kd) := each_mono (fun v d q => by
      obtain ⟨y, ry, dy⟩ := q
      exact Dp.reads I1 d y v dy ry) hks
    have hsz : kA.size = vs.length := by
      have z := each_len hk'
      rw [Array.length_toList, List.length_map] at z
      omega
    -- all but the list of the keys
    let Hk : Hp := upd (fun _ => none) kS (.lst [])
    have hidK : (hidT s1.heap Hk).get? kS = none := by
      cases q : (hidT s1.heap Hk).get? kS with
      | none => rfl
      | some o =>
        have z := (of_hidT q).2
        rw [show Hk kS = some (.lst []) from upd_same] at z
        cases z
    refine wpAny_bind (listItems_at nk1 rfl ?_)
    refine PySem.W.keyH_end (κ := PySem.W.dataKind s1.heap (xs.map kd)) (h₁ := hidT s1.heap Hk) (fun b o _ q => (of_hidT q).1) hidK nk1 na1 hka (PySem.W.SortsAt.data hk' hal hsk hu) hsz hz fun h3 tk3 c k3 n3 => ?_
    have each := PySem.W.keyedOut_each (rev := false) (out := PySem.W.sortVals (PySem.W.dataKind s1.heap (xs.map kd)) false kA.toList vs) kd (vs := vs) ⟨s1.heap, kA.toList, hal, rfl, hk'⟩ (vals_each rv)
    have I3 := Inv.take (t' := tk3) (kS := kS) (h' := h3) (c := c) I1 (fp_on fa ha0) (fp_on fk hk0) (fun b o hb hb2 q => k3 b o hb (hidT_get q (by rw [show Hk b = none from by show upd _ _ _ _ = _; rw [upd_ne hb2]]))) ?_ (each_vals each) n3
    · exact h _ H1 I3 sm ha0
    · rw [List.length_mergeSort]
      omega
end
section
variable {X : Cx} {k : Nat} {g sf : Addr} {fd : FuncData} {ps : List Str} {sp : Sp}
def rSortM (X : Cx) (g : Addr) (sp : Sp) : List V → List V → Hp → VK → Prop := fun vs zs H Q => ∃ (l f sf : Addr) (xs : List V) (kd : V → PyData), vs = [.ref l] ∧ zs = [.ref f] ∧ H f = some (.met g sf) ∧ (SqL X.K H l xs ∨ SqT X.K H l xs) ∧
  KeyOk X sf sp H xs kd ∧ PySem.W.AllAlike (xs.map kd) ∧ PySem.W.Sortable (xs.map kd) ∧ (∀ x ∈ xs, (kd x).depth ≤ 50) ∧ ∀ H' a, Same H H' → H' a = none → Q (.ref a) (upd H' a (.lst (xs.mergeSort (PySem.W.dataLe false kd))))
theorem cr_sortM (room : Room (k + 2) X.A) (F : FnOk X.prog X.w X.K X.mg X.base CX0 k g fd ps sp) (bd : Binds X.K fd ps []) : CallRK X (.builtin "sorted") [Str.ofString "key"] (rSortM X g sp) := by
  intro pins s σ H vs zs us ws Q I rv rz h
  obtain ⟨l, f, sf, xs, kd, rfl, rfl, em, hq, ok, hal, hsk, hdp, q⟩ := h
  obtain ⟨u, rfl, ru⟩ := vals1 rv
  obtain ⟨w, rfl, rw'⟩ := vals1 rz
  cases ru
  cases rw'
  obtain ⟨T, o, its, n, hT, ho, hc, hd, rx, hz⟩ : ∃ (T : String) (o : Obj) (its : List Value) (n : Nat), (T = "list" ∨ T = "tuple") ∧ s.heap.get? l = some o ∧ o.cls = .type T ∧ o.data = .seq its.toArray n ∧ Vals xs its ∧ its.length ≤ sizeLine := by
    rcases hq with hq | hq
    · obtain ⟨its, r, ⟨o, n, ho, hc, _, hd⟩, hz⟩ := I.list hq
      exact ⟨"list", o, its, n, .inl rfl, ho, hc, hd, r, by rw [← r.length]; exact hz⟩
    · obtain ⟨its, r, ⟨o, ho, hc, n, hd⟩, hz⟩ := I.tuple hq
      exact ⟨"tuple", o, its, n, .inr rfl, ho, hc, hd, r, by rw [← r.length]; exact hz⟩
  have hu := room.units
  refine sorted_seq ho hT hc hd hz (ksk_s1 _ _) (fun _ => ksk_l1 _ _) fun E' => ?_
  show wpAny _ _ (Builtin.«list.sort» ⟨[.ref (s.heap.objs.size + 1)], [(Str.ofString "key", .ref f)]⟩) _ _ _
  rw [ksk_t1]
  unfold ksk_tree
  have na0 := PySem.W.copyHeap_at s.heap its
  obtain ⟨e1, na1⟩ : ∃ e1, ((PySem.W.copyHeap s.heap its).update (s.heap.objs.size + 1) (Obj.mapSeq fun _ => (#[] : Array Value))).get? (s.heap.objs.size + 1) = some (seqObj "list" #[] e1) := ⟨_, get?_update_seq na0 fun _ => #[]⟩
  have sb := Heap.SameBut.update (PySem.W.copyHeap s.heap its) (s.heap.objs.size + 1) (Obj.mapSeq fun _ => (#[] : Array Value))
  refine wpAny_bind (listItems_at na0 rfl ?_)
  refine wpAny_bind (listUpdate_at na0 rfl ?_ (by rw [List.size_toArray]; exact hz) (Nat.zero_le _))
  refine wpAny_bind (seqEpoch_at na1 rfl ?_)
  refine wpAny_bind (wpAny_newTuple ?_ (by show its.length ≤ _; exact hz))
  refine wpAny_bind (wpAny_newList ?_ (Nat.zero_le _))
  refine wpAny_holding ?_
  have old : ∀ b o, s.heap.get? b = some o → ((((PySem.W.copyHeap s.heap its).update (s.heap.objs.size + 1) (Obj.mapSeq fun _ => (#[] : Array Value))).push (seqObj "tuple" its.toArray 0)).push (seqObj "list" #[] 0)).get? b = some o := fun b o e =>
    Heap.get?_push_of_some _ (Heap.get?_push_of_some _ ((sb.2 b (Nat.ne_of_lt (Nat.lt_succ_of_lt (Heap.lt_size e)))).trans (PySem.W.copyHeap_old e)))
  have big : s.heap.objs.size + 1 < (PySem.W.copyHeap s.heap its).objs.size := Heap.lt_size na0
  have hkS : (((PySem.W.copyHeap s.heap its).update (s.heap.objs.size + 1) (Obj.mapSeq fun _ => (#[] : Array Value))).push (seqObj "tuple" its.toArray 0)).objs.size = (PySem.W.copyHeap s.heap its).objs.size + 1 := by rw [size_push', Heap.size_update]
  have ltS : s.heap.objs.size + 1 < (((PySem.W.copyHeap s.heap its).update (s.heap.objs.size + 1) (Obj.mapSeq fun _ => (#[] : Array Value))).push (seqObj "tuple" its.toArray 0)).objs.size := by
    rw [hkS]
    omega
  have le1 : s.heap.objs.size ≤ s.heap.objs.size + 1 := Nat.le_succ _
  have le2 : s.heap.objs.size ≤ (((PySem.W.copyHeap s.heap its).update (s.heap.objs.size + 1) (Obj.mapSeq fun _ => (#[] : Array Value))).push (seqObj "tuple" its.toArray 0)).objs.size := by rw [hkS]; omega
  refine keyI_rest (A := X.A.in1.in1) (E := E') (by show X.A.frames = some X.stack; exact I.ok.frames) room.in1.in1 F em bd ok (I.kept (t' := s.toks) old) (I.fpOk le1 (I.hok.fresh le1)) (I.fpOk le2 (I.hok.fresh le2)) (Nat.ne_of_gt ltS) rx
    (Heap.get?_push_size _ rfl) (Heap.get?_push_of_some _ (Heap.get?_push_of_some _ na1)) hz hal hsk (fun d hd' => ?_) fun s' H' I' sm ha => ⟨rfl, ?_⟩
  · obtain ⟨x, hx, rfl⟩ := List.mem_map.mp hd'
    have := hdp x hx
    show X.A.units + 1 + 1 + (kd x).depth < cLine
    omega
  · exact ⟨.ref _, _, I', rfl, q H' _ sm ha⟩
end
section
variable {X : Cx} {e : Expr} {ta : TE} {C g : Addr} {m : Str} {pos : Pos}
/-- o.m as a value -/
def tBound (C : Addr) (m : Str) (g : Addr) (ta : TE) : TE := fun σ H Q => ta σ H fun x H1 => ∃ a dx fs, x = .ref a ∧ H1 a = some (.ins C dx fs) ∧ fs.lookup m = none ∧ ∀ q, H1 q = none → Q (.ref q) (upd H1 q (.met g a))
theorem pe_bound (he : PE X e ta) (c : Cls X.K C) (k : BMeth X.K C m g) (hb : attributeBase e m X.env (eval e X.env) = eval e X.env) : PE X (.Attribute e m pos) (tBound C m g ta) := by
  refine ⟨fun pins s σ H Q I h => ?_⟩
  refine attr_of hb (thn (he.run pins s σ H _ I h) fun u s1 ⟨x, H1, I1, rx, a, dx, fs, ex, ea, l, q⟩ => ?_)
  subst ex
  exact op_getbound I1 ea c k l rx q
end
end Xsm
set_option Elab.async false
set_option linter.all false
set_option maxRecDepth 100000
set_option maxHeartbeats 4000000
set_option pp.maxSteps 400
set_option pp.deepTerms false
/-! sorted of data of any one kind: of a list, of a tuple, of a dict's key tuples -/
namespace Xsd
open PySem PySem.Spec PyProof.Rows L2 Xsm
theorem each_pairs {h : Heap} {R : V → Value → Prop} {xs : List V} {vs : List Value} (r : Vals xs vs) : PySem.W.EachIs (fun v x => RelV x v) vs xs := vals_each r
theorem each_fst {α : Type} (f : α → V) : ∀ {bs : List α} {vs : List Value}, Vals (bs.map f) vs → PySem.W.EachIs (fun v b => RelV (f b) v) vs bs
  | [], _, h => by cases h; exact .nil
  | b :: bs, _, h => by cases h with | cons r t => exact .cons r (each_fst f t)
theorem fst_each {α : Type} (f : α → V) : ∀ {bs : List α} {vs : List Value}, PySem.W.EachIs (fun v b => RelV (f b) v) vs bs → Vals (bs.map f) vs
  | _, _, .nil => .nil
  | _, _, .cons r t => .cons r (fst_each f t)
theorem each_and {α : Type} {R S : Value → α → Prop} : ∀ {bs : List α} {vs : List Value}, PySem.W.EachIs R vs bs → (∀ v b, b ∈ bs → R v b → S v b) → PySem.W.EachIs S vs bs
  | _, _, .nil, _ => .nil
  | _, _, .cons r t, h => .cons (h _ _ List.mem_cons_self r) (each_and t fun v b m q => h v b (List.mem_cons_of_mem _ m) q)
section
variable {X : Cx} {k : Nat}
/-- what a pair's second says of its first -/
abbrev Pd := V × PyData
def rSortD (K : PySem.W.Frag) : List V → Hp → VK → Prop := fun vs H Q => ∃ (l : Addr) (bs : List Pd), vs = [.ref l] ∧ (SqL K H l (bs.map (·.1)) ∨ SqT K H l (bs.map (·.1))) ∧ (∀ b ∈ bs, Dp K H b.1 b.2) ∧ PySem.W.AllAlike (bs.map (·.2)) ∧ PySem.W.Sortable (bs.map (·.2)) ∧ (∀ b ∈ bs, b.2.depth ≤ 50) ∧
  ∀ a, H a = none → Q (.ref a) (upd H a (.lst ((bs.mergeSort (PySem.W.dataLe false fun b : Pd => b.2)).map (·.1))))
theorem cr_sortD (room : Room (k + 2) X.A) : CallR X (.builtin "sorted") (rSortD X.K) := by
  intro pins s σ H vs us Q I r h
  obtain ⟨l, bs, rfl, hq, hdp, hal, hsk, hde, q⟩ := h
  obtain ⟨u, rfl, ru⟩ := vals1 r
  cases ru
  obtain ⟨T, o, its, n, hT, ho, hc, hd, rx, hz⟩ : ∃ (T : String) (o : Obj) (its : List Value) (n : Nat), (T = "list" ∨ T = "tuple") ∧ s.heap.get? l = some o ∧ o.cls = .type T ∧ o.data = .seq its.toArray n ∧ Vals (bs.map (·.1)) its ∧ its.length ≤ sizeLine := by
    rcases hq with hq | hq
    · obtain ⟨its, r, ⟨o, n, ho, hc, _, hd⟩, hz⟩ := I.list hq
      exact ⟨"list", o, its, n, .inl rfl, ho, hc, hd, r, by rw [← r.length]; exact hz⟩
    · obtain ⟨its, r, ⟨o, ho, hc, n, hd⟩, hz⟩ := I.tuple hq
      exact ⟨"tuple", o, its, n, .inr rfl, ho, hc, hd, r, by rw [← r.length]; exact hz⟩
  have hu := room.units
  have old : ∀ b o, s.heap.get? b = some o → (PySem.W.sortingHeap (PySem.W.copyHeap s.heap its) (s.heap.objs.size + 1) its).get? b = some o := fun b o e => PySem.W.sorting_copy_old e
  have I2 := I.kept (t' := s.toks) old
  have er : PySem.W.EachIs (fun v b => ∃ as, Reads (PySem.W.sortingHeap (PySem.W.copyHeap s.heap its) (s.heap.objs.size + 1) its) v b.2 as) its bs := each_and (each_fst (·.1) rx) fun v b m rb => Dp.reads I2 b.2 b.1 v (hdp b m) rb
  refine sorted_seq ho hT hc hd hz (args_sorted1 _) (fun _ => args_list_sort _) fun E' => ?_
  refine PySem.W.list_sort_vals (s := { s with heap := PySem.W.copyHeap s.heap its }) (PySem.W.copyHeap_at s.heap its) (PySem.W.SortsAt.data (ds := bs.map (·.2)) (PySem.W.each_map (R := fun v d => ∃ as, Reads (PySem.W.sortingHeap (PySem.W.copyHeap s.heap its) (s.heap.objs.size + 1) its) v d as) (fun b : Pd => b.2) er) hal hsk fun d hd' => ?_) hz ⟨rfl, ?_⟩
  · obtain ⟨x, hx, rfl⟩ := List.mem_map.mp hd'
    have := hde x hx
    show X.A.units + 1 + 1 + x.2.depth < cLine
    omega
  have out := PySem.W.sortVals_data (enc := fun b : Pd => b.2) false (each_fst (·.1) rx) er hal
  obtain ⟨ep, hat⟩ := PyProof.Rows.sortedAll_at s.heap its (PySem.W.sortVals (PySem.W.dataKind (PySem.W.sortingHeap (PySem.W.copyHeap s.heap its) (s.heap.objs.size + 1) its) (bs.map (·.2))) false its its).toArray
  have le1 : s.heap.objs.size ≤ s.heap.objs.size + 1 := Nat.le_succ _
  have lz : ((bs.mergeSort (PySem.W.dataLe false fun b : Pd => b.2)).map (·.1)).length ≤ sizeLine := by
    rw [List.length_map, List.length_mergeSort]
    have := rx.length
    rw [List.length_map] at this
    omega
  exact ⟨.ref _, _, I.laid (o := .lst ((bs.mergeSort (PySem.W.dataLe false fun b : Pd => b.2)).map fun b : Pd => b.1)) (t' := s.toks) (fun b o e => PyProof.Rows.sortedAll_old e) le1 ⟨lz, _, ep, fst_each (fun b : Pd => b.1) out, hat⟩, rfl, q _ (I.hok.fresh le1)⟩
/-! ### of a dict's key tuples -/
def kyD : Key → PyData
  | .inl i => .int i
  | .inr x => .str x
def kyT (k : List Key) : PyData := .tuple (k.map kyD)
theorem dp_key {K : PySem.W.Frag} {H : Hp} : ∀ k : List Key, DpAll K H (k.map kV) (k.map kyD)
  | [] => .nil
  | .inl i :: r => .cons (.int i) (dp_key r)
  | .inr x :: r => .cons (.str x) (dp_key r)
/-- sorted of what a dict gives -/
theorem sorted_src {prog : Program} {w : World} {A : Around} {E : Value → Shared → Prop} {s : Shared} {T : String} {r d : Addr} {n : Nat} {P : Nat → Value → Prop} {OK : Heap → Prop} {Q : Value → Shared → Prop}
    (K : PySem.W.KdlSrc prog w T r d n P OK) (hh : A.handled = none) (hok : OK s.heap) (hn : n ≤ sizeLine)
    (body : ∀ (h' : Heap) (tk : Nat) (acc : List Value), (∀ b o, s.heap.get? b = some o → h'.get? b = some o) → acc.length = n → (∀ j v, acc[j]? = some v → P j v) → ∀ E' : Value → Shared → Prop,
      wpAny (model prog w) A.in1.in1 (Builtin.«list.sort» ⟨[.ref h'.objs.size], []⟩) (fun f s' => f = .done (.ret .none) ∧ Q (.ref h'.objs.size) s') E' { s with heap := h'.push (seqObj "list" acc.toArray 0), toks := tk }) :
    wpAny (model prog w) A (call (.builtin "sorted") [.ref r]) Q E s := by
  refine PySem.Calls.call_function_entry kind_sorted plain_sorted entry_sorted (args_sorted1 _) ?_
  unfold Builtin.«sorted»
  refine wpAny_bind (m := checkCount "sorted" 1 1 _) (wpAny_pure ?_)
  refine wpAny_bind (PySem.W.kdu_collect (A := A.in1) K hh hok hn fun h' tk acc hk it => ?_)
  have la : acc.toList.length = n := by rw [Array.length_toList]; exact it.1
  refine wpAny_bind (wpAny_newList ?_ (by rw [la]; exact hn))
  have at_ : (h'.push (seqObj "list" acc.toList.toArray 0)).get? h'.objs.size = some (seqObj "list" acc.toList.toArray 0) := Heap.get?_push_size _ rfl
  refine wpAny_bind (wpAny_holding (wpAny_call_entry_kw (kw := []) slot_list_sort ⟨_, at_, rfl⟩ entry_list_sort ?b (args_list_sort _)))
  case b =>
    refine wpAny_mono (body h' tk acc.toList hk la (fun j v e => it.2 j v (by rw [← Array.getElem?_toList]; exact e)) _) (fun f s' hf => ?_) fun _ _ e => e
    obtain ⟨rfl, hq⟩ := hf
    exact ⟨_, rfl, wpAny_pure ⟨_, rfl, hq⟩⟩
/-- what is tracked is there -/
theorem is_there {P : Program} {w : World} {H : Hp} {h : Heap} {a : Addr} : ∀ {u : HO}, ObjOk P w H h a u → ∃ o, h.get? a = some o
  | .lst _, y => (fun ⟨_, _, _, _, e⟩ => ⟨_, e⟩) y
  | .tup _, y => (fun ⟨_, _, _, o, e, _⟩ => ⟨o, e⟩) y
  | .dK _, y => (fun ⟨_, _, _, _, o, _, _, e, _⟩ => ⟨o, e⟩) y
  | .dT _, y => (fun ⟨_, _, _, _, o, _, _, e, _⟩ => ⟨o, e⟩) y
  | .set _ _, y => (fun ⟨o, _, _, _, e, _⟩ => ⟨o, e⟩) y
  | .ins _ _ _, y => (fun ⟨_, _, _, e, _⟩ => ⟨_, e⟩) y
  | .own _, y => y
  | .xd _, y => (fun ⟨_, ⟨o, _, _, e, _⟩, _⟩ => ⟨o, e⟩) y
  | .met _ _, y => ⟨_, y⟩
  | .rng _ _, y => (fun ⟨_, _, _, e⟩ => ⟨_, e⟩) y
  | .frz _ _, y => ⟨_, y.1⟩
  | .tbl _, y => ⟨_, y⟩
  | .ext _, y => y.2.1
theorem paired_mem {α β : Type} {F : α → β → Prop} : ∀ {as : List α} {bs : List β}, Paired F as bs → ∀ b ∈ bs, ∃ a ∈ as, F a b
  | _, _, .nil, b, m => by cases m
  | _, _, .cons h t, b, m => by
    rcases List.mem_cons.mp m with rfl | m
    · exact ⟨_, List.mem_cons_self, h⟩
    · obtain ⟨a, ma, f⟩ := paired_mem t b m
      exact ⟨a, List.mem_cons_of_mem _ ma, f⟩
theorem paired_map {α β γ : Type} {F : α → β → Prop} {f : α → γ} {g : β → γ} (h : ∀ a b, F a b → f a = g b) : ∀ {as : List α} {bs : List β}, Paired F as bs → as.map f = bs.map g
  | _, _, .nil => rfl
  | _, _, .cons p t => by rw [List.map_cons, List.map_cons, h _ _ p, paired_map h t]
abbrev Kb := List Key × Addr
def rSortK : List V → Hp → VK → Prop := fun vs H Q => ∃ (d : Addr) (kvs : List (List Key × V)), vs = [.ref d] ∧ Rd H d (.dT kvs) ∧ PySem.W.AllAlike (kvs.map fun p => kyT p.1) ∧ PySem.W.Sortable (kvs.map fun p => kyT p.1) ∧ (∀ p ∈ kvs, (kyT p.1).depth ≤ 50) ∧
  ∀ (a : Addr) (bs : List Kb), H a = none → (∀ b ∈ bs, H b.2 = some (.tup (b.1.map kV))) → bs.map (·.1) = (kvs.map (·.1)).mergeSort (PySem.W.dataLe false kyT) → Q (.ref a) (upd H a (.lst (bs.map fun b => .ref b.2)))
theorem cr_sortK (hc : X.calm = true) (room : Room (k + 2) X.A) : CallR X (.builtin "sorted") rSortK := by
  intro pins s σ H vs us Q I r h
  obtain ⟨d, kvs, rfl, hd, hal, hsk, hde, q⟩ := h
  obtain ⟨u, rfl, ru⟩ := vals1 r
  cases ru
  have hu := room.units
  obtain ⟨z, hs, ks, pr, o, es, ep, ho, hx, hdt, he, hn⟩ := (show ObjOk X.prog X.w H s.heap d (.dT kvs) from hd.ok I.hok)
  have l1 : es.size = ks.length := size_of_entries he
  have l2 : kvs.length = ks.length := Paired.length pr
  obtain ⟨b0, eb0⟩ : ∃ b0 : List Kb, b0 = ks.map fun x => (x.1, x.2.1) := ⟨_, rfl⟩
  have lb : b0.length = ks.length := by rw [eb0, List.length_map]
  have ek : kvs.map (·.1) = b0.map (·.1) := by
    rw [eb0, List.map_map]
    exact paired_map (fun a b f => f.1) pr
  have eky : (kvs.map fun p => kyT p.1) = b0.map fun b => kyT b.1 := by
    have := congrArg (List.map kyT) ek
    rw [List.map_map, List.map_map] at this
    exact this
  have hb0 : ∀ b ∈ b0, H b.2 = some (.tup (b.1.map kV)) := fun b mb => by
    rw [eb0] at mb
    obtain ⟨x, mx, rfl⟩ := List.mem_map.mp mb
    obtain ⟨p, _, f1, f2, _⟩ := paired_mem pr x mx
    show H x.2.1 = some (.tup (x.1.map kV))
    rw [← f1]
    exact f2
  refine sorted_src (kdl_raw hs hx hdt) (I.ok.hd hc) ho (by omega) fun h' tk acc old la hP E' => ?_
  have rx : Vals (b0.map fun b => V.ref b.2) acc := by
    have e : acc = (b0.map fun b : Kb => b.2).map Value.ref := by
      refine List.ext_getElem? fun j => ?_
      by_cases hj : j < acc.length
      · have hj2 : j < ks.length := by omega
        obtain ⟨en, h1, h2⟩ := hP j acc[j] (List.getElem?_eq_getElem hj)
        have h3 := entry_at he j
        rw [h1, List.getElem?_eq_getElem hj2] at h3
        rw [List.getElem?_eq_getElem hj, h2, Option.some.inj h3, eb0, List.map_map, List.getElem?_map, List.getElem?_map, List.getElem?_eq_getElem hj2]
        rfl
      · rw [List.getElem?_eq_none (by omega), List.getElem?_eq_none (by rw [List.length_map, List.length_map]; omega)]
    rw [e, show (b0.map fun b : Kb => V.ref b.2) = (b0.map fun b : Kb => b.2).map V.ref by rw [List.map_map]; rfl]
    exact vals_refs _
  have at_ : (h'.push (seqObj "list" acc.toArray 0)).get? h'.objs.size = some (seqObj "list" acc.toArray 0) := Heap.get?_push_size _ rfl
  have old1 : ∀ b o, s.heap.get? b = some o → (h'.push (seqObj "list" acc.toArray 0)).get? b = some o := fun b o e => Heap.get?_push_of_some _ (old b o e)
  have old2 : ∀ b o, s.heap.get? b = some o → (PySem.W.sortingHeap (h'.push (seqObj "list" acc.toArray 0)) h'.objs.size acc).get? b = some o := fun b o e => PySem.W.sortingHeap_old (Nat.ne_of_lt (Heap.lt_size (old b o e))) (old1 b o e)
  have I2 := I.kept (t' := s.toks) old2
  have dp0 : ∀ b ∈ b0, Dp X.K H (.ref b.2) (kyT b.1) := fun b mb => .tup (SqT.of (hb0 b mb)) (dp_key b.1)
  have er : PySem.W.EachIs (fun v (b : Kb) => ∃ as, Reads (PySem.W.sortingHeap (h'.push (seqObj "list" acc.toArray 0)) h'.objs.size acc) v (kyT b.1) as) acc b0 := each_and (each_fst (fun b : Kb => V.ref b.2) rx) fun v b m rb => Dp.reads I2 (kyT b.1) (.ref b.2) v (dp0 b m) rb
  rw [eky] at hal hsk
  have hz : acc.length ≤ sizeLine := by omega
  refine PySem.W.list_sort_vals (s := { s with heap := h'.push (seqObj "list" acc.toArray 0), toks := tk }) at_ (PySem.W.SortsAt.data (ds := b0.map fun b => kyT b.1) (PySem.W.each_map (R := fun v d => ∃ as, Reads (PySem.W.sortingHeap (h'.push (seqObj "list" acc.toArray 0)) h'.objs.size acc) v d as) (fun b : Kb => kyT b.1) er) hal hsk fun d hd' => ?_) hz ⟨rfl, ?_⟩
  · rw [← eky] at hd'
    obtain ⟨x, hx, rfl⟩ := List.mem_map.mp hd'
    have := hde x hx
    show X.A.units + 1 + 1 + (kyT x.1).depth < cLine
    omega
  have out := PySem.W.sortVals_data (enc := fun b : Kb => kyT b.1) false (each_fst (fun b : Kb => V.ref b.2) rx) er hal
  obtain ⟨ep2, hat⟩ := PyProof.Rows.sortedHeap_at (out := (PySem.W.sortVals (PySem.W.dataKind (PySem.W.sortingHeap (h'.push (seqObj "list" acc.toArray 0)) h'.objs.size acc) (b0.map fun b => kyT b.1)) false acc acc).toArray) at_
  have gone : s.heap.get? h'.objs.size = none := by
    cases e' : s.heap.get? h'.objs.size with
    | none => rfl
    | some o' => exact absurd (Heap.lt_size (old _ _ e')) (Nat.lt_irrefl _)
  have free : H h'.objs.size = none := by
    cases e' : H h'.objs.size with
    | none => rfl
    | some u' =>
      obtain ⟨o', e2⟩ := is_there (I.hok _ _ e')
      rw [gone] at e2
      cases e2
  have lz : ((b0.mergeSort (PySem.W.dataLe false fun b : Kb => kyT b.1)).map fun b : Kb => V.ref b.2).length ≤ sizeLine := by
    rw [List.length_map, List.length_mergeSort]
    omega
  refine ⟨.ref _, _, I.laidN (o := .lst ((b0.mergeSort (PySem.W.dataLe false fun b : Kb => kyT b.1)).map fun b : Kb => V.ref b.2)) (t' := tk) (fun b o e => ?_) gone free ⟨lz, _, ep2, fst_each (fun b : Kb => V.ref b.2) out, hat⟩, rfl, q _ _ free (fun b mb => hb0 b (List.mem_mergeSort.mp mb)) ?_⟩
  · have lt := Heap.lt_size (old1 b o e)
    rw [PyProof.Rows.sortedHeap_old (Nat.ne_of_lt (Heap.lt_size (old b o e))) lt]
    exact old1 b o e
  · rw [ek]
    exact List.map_mergeSort fun a _ b _ => rfl
/-! ### in, of a tuple of data -/
def rInTD (K : PySem.W.Frag) : R2 := fun x y H Q => ∃ d ds, Dp K H x d ∧ Dp K H y (.tuple ds) ∧ SeqAt.shaped d = true ∧ SeqAt.shaped (.tuple ds) = true ∧ Q (.bl (ds.any fun z => PyData.eqv z d)) H
theorem op_inTD (hu : X.A.units + 65 < cLine) : OpR X (compareOp .In) (rInTD X.K) := fun pins s σ H x y v u Q I rx ry ⟨d, ds, hd, he, sd, se, q⟩ =>
  let ⟨_, r1⟩ := Dp.reads I d x v hd rx
  let ⟨_, r2⟩ := Dp.reads I (.tuple ds) y u he ry
  SeqAt.in_tuple_reads r2 r1 (SeqAt.canLay_of_shaped se) (SeqAt.canLay_of_shaped sd) (room_in_shaped sd hu) ⟨.bl _, H, I, rfl, q⟩
end
end Xsd
set_option Elab.async false
set_option linter.all false
set_option maxRecDepth 100000
set_option maxHeartbeats 4000000
set_option pp.maxSteps 400
set_option pp.deepTerms false
namespace K69
open PySem PySem.Spec PyProof.Rows L2
open Xk Az Xtx Xst
section
variable {P : Program} {w : World} {K : PySem.W.Frag} {mg : Str → Option Value} {base : Heap} {C CL : Addr}
theorem pe_no {X : Cx} {e : Expr} : PE X e (fun _ _ _ => False) := ⟨fun _ _ _ _ _ _ h => False.elim h⟩
structure LiC (K : PySem.W.Frag) (mg : Str → Option Value) (CI : Addr) : Prop where
  cls : Cls K CI
  nS : NoAttr K CI "sheets"
  mgI : mg "Listing" = some (.ref CI)
  ins : C8.InsC K CI
  me : PySem.W.kitOne K (.ref CI) (.ref CI) = some true
/-- a Listing without keys -/
def LiAt (CI : Addr) (H : Hp) (a : Addr) : Prop := ∃ dx d, H a = some (.ins CI dx [("sheets", .ref d)]) ∧ H d = some (.dT [])
theorem LiAt.same {CI a : Addr} {H H' : Hp} (h : LiAt CI H a) (s : L2.Same H H') : LiAt CI H' a := by
  obtain ⟨dx, d, e1, e2⟩ := h
  exact ⟨dx, d, s _ _ e1, s _ _ e2⟩
theorem f_sh (d : Addr) : ([(("sheets" : Str), V.ref d)] : List (Str × V)).lookup ("sheets" : Str) = some (V.ref d) := by
  rw [List.lookup_cons, show (("sheets" : Str) == "sheets") = true by decide +kernel]
def spLg (CI : Addr) : Sp := fun vs H Q _ => ∃ (x dx : Addr) (v : V), vs = [.ref x, v] ∧ H x = some (.ins CI dx []) ∧ (v = .non ∨ ∃ t, v = .ref t ∧ H t = some (.tup [])) ∧
  ∀ H', LiAt CI H' x → (∀ b o, b ≠ x → H b = some o → H' b = some o) → Q .non H'
def spLiL (CI : Addr) : Sp := fun vs H Q _ => ∃ x, vs = [.ref x] ∧ LiAt CI H x ∧ Q (.int 0) H
def LiR (CI : Addr) (a b : Addr) (H : Hp) : Prop := LiAt CI H a ∧ LiAt CI H b
def spLiE (CI : Addr) : Sp := fun vs H Q _ => ∃ x, vs = [.ref x] ∧ LiAt CI H x ∧ ∀ t H', L2.Same H H' → H' t = some (.tup []) → Q (.ref t) H'
theorem okN {x qual : Str} {params : Arguments} {body : List Stmt} {scope : Scope} {dvs : List V} {kws : List (Str × V)} {f : Addr} {fd : FuncData} {N ps : List Str} {k : Nat} {sp : Sp} (F : FunD K x qual params body scope dvs kws f fd) (S : FnScope N ps scope) (len : ∀ vs H Q E, sp vs H Q E → vs.length = ps.length)
    (hbody : ∀ (cdv : Value) (A : Around) (outer : List Env) (s : Shared) (H : Hp) (vs : List V) (Q : VK) (E : XK), Room k (A.deeper (envOfC qual scope s.heap.objs.size f cdv)) → sp vs H Q E →
      ∃ t, PSs (cxOf CX0 P w K mg base N qual scope f cdv A outer s H E).nox body t ∧ t { nx := fun _ H' => Q .non H', rt := Q } (start N vs) H) : FnOk P w K mg base CX0 (k + 1) f fd ps sp :=
  F.ok S len fun cdv A outer s H vs Q E hr h => by
    obtain ⟨t, ht, hq⟩ := hbody cdv A outer s H vs Q E hr h
    exact ⟨t, ht.nox, hq⟩
theorem ok_lini {f : Addr} {fd : FuncData} {e : Ex} {CI : Addr} (F : FunD K "__init__" "Listing.__init__" (defArgs sListingInit) (defBody sListingInit) (defScope sListingInit) [.non] [] f fd) (T : Txt K mg C CL e) (L : LiC K mg CI) : FnOk P w K mg base CX0 1 f fd ["self", "entries"] (spLg CI) := by
  refine okN F scListingInit (fun vs H Q E h => ?_) (fun cdv A outer s H vs Q E hr h => ?_)
  · obtain ⟨x, dx, v, rfl, ex, hv, q⟩ := h
    rfl
  · obtain ⟨x, dx, v, rfl, ex, hv, q⟩ := h
    refine ⟨_, (pss_cons (ps_fld (pv 0) pe_dnewT rfl)
      (pss_one (ps_for PassesOwn.never rfl (pi_tup (pe_ifExp (pt_cmpR op_isN (pv 1) pe_non (nomark _)) (pe_tup pa_nil) (pv 1))) (pg_name (i := 2) scListingInit.nd rfl (.inl rfl)) (pss_one (ps_no))))), ?_⟩
    refine fun d nd => ⟨_, rfl, x, CI, dx, [], rfl, same_upd nd _ _ ex, L.cls, L.nS, by decide, ?_⟩
    have dx_ : d ≠ x := fun z => by rw [z, ex] at nd; cases nd
    have ed : (L2.upd (L2.upd H d (.dT [])) x (.ins CI dx (putF "sheets" (.ref d) []))) d = some (.dT []) := by rw [upd_ne dx_]; exact upd_same
    have ex1 : (L2.upd (L2.upd H d (.dT [])) x (.ins CI dx (putF "sheets" (.ref d) []))) x = some (.ins CI dx [("sheets", .ref d)]) := upd_same
    have keep : ∀ b o, b ≠ x → H b = some o → (L2.upd (L2.upd H d (.dT [])) x (.ins CI dx (putF "sheets" (.ref d) []))) b = some o := fun b o n e => by rw [upd_ne n]; exact same_upd nd _ _ e
    generalize L2.upd (L2.upd H d (.dT [])) x (.ins CI dx (putF "sheets" (.ref d) [])) = H1 at ed ex1 keep ⊢
    rcases hv with rfl | ⟨t, rfl, et⟩
    · refine ⟨_, rfl, rfl, _, rfl, iteT ⟨(by show 0 ≤ sizeLine; decide), fun t nt => ⟨t, rfl, ⟨_, SqT.of upd_same⟩, ?_⟩⟩⟩
      have st := same_upd nt (o := .tup [])
      refine for_tup (g := gName 2) (tb := fun _ _ _ => False) (D := { nx := fun x H' => Q V.non H', rt := Q }) (K := K) (a := t) (xs := []) (fun i σ Hi => Hi = L2.upd H1 t (.tup []) ∧ σ = [some (.ref x), some .non, none]) ⟨rfl, rfl⟩ (fun i σ Hi _ z => by rw [z.1]; exact SqT.of upd_same) ?_ ?_
      · intro i x1 σ Hi hi
        cases hi
      · rintro σ Hi ⟨rfl, rfl⟩
        exact q _ ⟨dx, d, st _ _ ex1, st _ _ ed⟩ (fun b o n e => st _ _ (keep b o n e))
    · have tx : t ≠ x := fun z => by rw [z, ex] at et; cases et
      have et1 := keep _ _ tx et
      refine ⟨_, rfl, rfl, _, rfl, iteF ⟨_, rfl, t, rfl, ⟨_, SqT.of et1⟩, ?_⟩⟩
      refine for_tup (g := gName 2) (tb := fun _ _ _ => False) (D := { nx := fun x H' => Q V.non H', rt := Q }) (K := K) (a := t) (xs := []) (fun i σ Hi => Hi = H1 ∧ σ = [some (.ref x), some (.ref t), none]) ⟨rfl, rfl⟩ (fun i σ Hi _ z => by rw [z.1]; exact SqT.of et1) ?_ ?_
      · intro i x1 σ Hi hi
        cases hi
      · rintro σ Hi ⟨rfl, rfl⟩
        exact q _ ⟨dx, d, ex1, ed⟩ keep
theorem ok_lile {f : Addr} {fd : FuncData} {e : Ex} {CI : Addr} (F : Fun K "__len__" "Listing.__len__" sListingLen f fd) (T : Txt K mg C CL e) (L : LiC K mg CI) : FnOk P w K mg base CX0 1 f fd ["self"] (spLiL CI) := by
  refine F.ok scListingLen (fun vs H Q E h => ?_) (fun cdv A outer s H vs Q E hr h => ?_)
  · obtain ⟨x, rfl, ⟨dx, d, e1, e2⟩, q⟩ := h
    rfl
  · obtain ⟨x, rfl, ⟨dx, d, e1, e2⟩, q⟩ := h
    refine ⟨_, (pss_one (ps_ret (pe_callB call_len_dT (by rfl) T.len PySem.boot_len (pa_cons (pe_fld (pv 0) rfl) pa_nil)))), ?_⟩
    exact ⟨_, rfl, x, CI, dx, _, _, rfl, e1, L.cls, L.nS, f_sh d, d, [], rfl, e2, q⟩
theorem ok_lieq {f : Addr} {fd : FuncData} {e : Ex} {CI : Addr} (F : Fun K "__eq__" "Listing.__eq__" sListingEq f fd) (T : Txt K mg C CL e) (L : LiC K mg CI) : FnOk P w K mg base CX0 1 f fd ["self", "other"] (L2.spEq (LiR CI)) := by
  refine F.ok scListingEq (fun vs H Q E h => ?_) (fun cdv A outer s H vs Q E hr h => ?_)
  · obtain ⟨a, b, rfl, ⟨⟨dx, d, e1, e2⟩, dy, d2, e3, e4⟩, q⟩ := h
    rfl
  · obtain ⟨a, b, rfl, ⟨⟨dx, d, e1, e2⟩, dy, d2, e3, e4⟩, q⟩ := h
    refine ⟨_, (pss_one (ps_ret (pe_and (pe_callB call_isi (by rfl) T.isi (by decide +kernel) (pa_cons (pv 1) (pa_cons (pe_glob (v := .ref CI) (by rfl) L.mgI rfl) pa_nil))) (pe_one (pe_cmpR (Xde.op_eqE hr.units0) (pe_fld (pv 0) rfl) (pe_fld (pv 1) rfl) (nomark _)))))), ?_⟩
    refine ⟨_, rfl, _, _, _, _, true, rfl, .own CI, .base (.ins e3 L.cls L.ins.ha L.ins.hn L.ins.htk L.ins.hm), L.me, true, rfl, iteT ?_⟩
    exact ⟨_, rfl, a, CI, dx, _, _, rfl, e1, L.cls, L.nS, f_sh d, _, rfl, b, CI, dy, _, _, rfl, e3, L.cls, L.nS, f_sh d2, d, d2, rfl, rfl, e2, e4, q _ Ext.rfl'⟩
theorem ok_lien {f : Addr} {fd : FuncData} {e : Ex} {CI : Addr} (F : Fun K "entries" "Listing.entries" sListingEntries f fd) (T : Txt K mg C CL e) (L : LiC K mg CI) : FnOk P w K mg base CX0 4 f fd ["self"] (spLiE CI) := by
  refine F.ok scListingEntries (fun vs H Q E h => ?_) (fun cdv A outer s H vs Q E hr h => ?_)
  · obtain ⟨x, rfl, ⟨dx, d, e1, e2⟩, q⟩ := h
    rfl
  · obtain ⟨x, rfl, ⟨dx, d, e1, e2⟩, q⟩ := h
    refine ⟨_, (pss_one (ps_ret (pe_callTy call_tuple_of (by rfl) T.tuple (by decide +kernel) (pa_cons (pe_lc (own := [("key", 1)]) (g := gName 1) (tt := tYes) (te := (fun _ _ _ => False)) (by rfl) scListingEntries.nd (pi_list (pe_callB (Xsd.cr_sortK (k := 0) (by rfl) (hr.mono (by decide))) (by rfl) T.sorted (by decide +kernel) (pa_cons (pe_fld (pv 0) rfl) pa_nil))) (blkOk_by (own := [("key", 1)]) (N := ["self", "key"]) (sc := defScope sListingEntries) (by decide +kernel)) (fun _ _ _ _ _ => pg_name (i := 1) scListingEntries.nd rfl (.inl rfl)) (fun _ _ _ _ _ => pts_nil) (fun _ _ _ _ _ => pe_no)) pa_nil)))), ?_⟩
    refine ⟨_, rfl, x, CI, dx, _, _, rfl, e1, L.cls, L.nS, f_sh d, d, [], rfl, .inl e2, (fun z hz => by cases hz), .inl (fun z hz => by cases hz), (fun p hp => by cases hp), fun a bs na hb em => ?_⟩
    have : bs = [] := by
      have em : bs.map (·.1) = ([] : List (List Key)).mergeSort (PySem.W.dataLe false Xsd.kyT) := em
      rw [List.mergeSort_nil] at em
      exact List.map_eq_nil_iff.mp em
    subst this
    have sa := same_upd na (o := .lst [])
    have ea : (L2.upd H a (.lst [])) a = some (.lst []) := upd_same
    simp only [List.map_nil]
    generalize hG : L2.upd H a (.lst []) = H1 at sa ea ⊢
    refine ⟨a, rfl, ⟨_, SqL.of ea⟩, fun D nD => ?_⟩
    have eD : (L2.upd H1 D (.lst [])) a = some (.lst []) := same_upd nD _ _ ea
    refine lc_it (g := gName 1) (tt := tYes) (te := fun _ _ _ => False) (walk_list (K := K) (a := a) (xs := [])) (fun i Hi => Hi = L2.upd H1 D (.lst [])) rfl (fun i Hi _ z => by rw [z]; exact SqL.of eD) ?_ ?_
    · intro i y Hi H' hi
      exact absurd hi (Nat.not_lt_zero _)
    · rintro Hi rfl
      refine ⟨_, _, rfl, .inl ⟨SqL.of upd_same, fun t nt => ?_⟩⟩
      exact q t _ ((sa.trans (same_upd nD)).trans (same_upd nt)) upd_same
end
end K69
set_option Elab.async false
set_option linter.all false
set_option maxRecDepth 100000
set_option maxHeartbeats 4000000
set_option pp.maxSteps 600
/-! a list comprehension whose element may raise -/
namespace Xlx
open PySem PySem.Spec PyProof.Rows L2
section
variable {X : Cx}
/-- the block's context, with a wish for what its element lets out -/
abbrev BkX (X : Cx) (scope : Scope) (s : Shared) (H : Hp) (C : Addr) (cl : List (Str × Addr)) (fp : List Addr) (xe : Value → Shared → Prop) : Cx := { X.blk s H scope (compEnvC scope cl C X.env) fp with xe := xe }
/-- what the block owes of a raise -/
abbrev owes (X : Cx) (ce : Env) : Value → Shared → Prop := notedBy (model X.prog X.w) X.A ce (CompFails (model X.prog X.w) X.A X.xe ce)
variable {pins : List (Addr × Obj)} {σ : L2.St} {H3 : Hp} {s3 : Shared} {E0 : XK} {fp : List Addr} {scope : Scope} {cl : List (Str × Addr)}
theorem out (hs : X.stack = X.env :: X.outer) (hf : X.env.frame = some X.env.locals) (tk : Takes X (fun cls d _ H => E0 cls d H)) (I3 : Inv X pins σ H3 s3) (f3 : ∀ b ∈ fp, FpOk X pins H3 b ∧ b < s3.heap.objs.size) :
    Passes (L2.CX X.prog X.w) (BkX X scope s3 H3 s3.heap.objs.size cl fp (owes X (compEnvC scope cl s3.heap.objs.size X.env))) E0 := by
  intro pY0 σY0 HY0 sY e s' IY c
  have x := XE.of_call (W := fun cls d _ H => E0 cls d H) IY (fun _ _ _ h => h) c
  obtain ⟨a, B, sI, pY, σY, HY, cls, d, rfl, I, nb, up, sky, na, os, ag, w⟩ := x
  obtain ⟨a', B', H'', cls', d', e1, fl', _⟩ := c
  cases e1
  obtain ⟨k1, k2, k3, oe, vs, T, oT, ts, he, hz, hd, h1, hnT, hTe, hT, hdT, h3⟩ := fl'
  have fl : HandSPX.FlyingZ B X.stack a (Zc cls d) s'.heap := by
    rcases sky with ⟨_, _, _, oe', vs', he', _, hd', h1'⟩ | fl | hh
    · rw [he] at he'; cases he'
      rw [hd] at hd'; cases hd'
      rw [h1] at h1'; cases h1'
    · exact fl
    · obtain ⟨_, _, _, oe', vs', T', oT', ts', he', hz', hd', h1', _, _, hT', hdT', h3'⟩ := hh
      rw [he] at he'; cases he'
      rw [hd] at hd'; cases hd'
      rw [h1] at h1'; cases h1'
      rw [hT] at hT'; cases hT'
      rw [hdT] at hdT'; cases hdT'
      rw [h3] at h3'; cases h3'
  clear he hd h1 hT hdT h3 hTe hnT hz k1 k2 k3
  show wpAny (model X.prog X.w) X.A (noteFrame (.ref a) (compEnvC scope cl s3.heap.objs.size X.env)) _ _ s'
  rw [noteFrame_env _ (show (compEnvC scope cl s3.heap.objs.size X.env).frame = X.env.frame from rfl)]
  have hfr : X.A.frames = some (X.env :: X.outer) := by rw [I3.ok.frames, hs]
  rw [hs] at fl
  refine HandSPX.looks_onZ Zc.steady hfr hf fl fun g1 hh up1 => ?_
  obtain ⟨m, nC0, _⟩ := I.loc
  have nC : sI.heap.Ns s3.heap.objs.size m := nC0
  have nC1 : g1.Ns s3.heap.objs.size m := up1.ns (up.ns nC)
  refine ⟨m, nC1, fun g2 m2 hn2 sb => ?_⟩
  have sb : Heap.SameBut s3.heap.objs.size g1 g2 := sb
  obtain ⟨b1, b0, b3, oe, vs, T, oT, ts, he, hz, hd, h1, hnT, hTe, hT, hdT, h3⟩ := hh
  have kind : ∀ b o, g1.get? b = some o → ∀ us, o.data = .fields us → b ≠ s3.heap.objs.size := fun b o e us hk z => by
    obtain ⟨oC, es, ep, hoC, hdC, _⟩ := nC1
    rw [z, hoC] at e
    cases e
    rw [hdC] at hk
    cases hk
  have aC := kind a oe he vs hd
  have TC := kind T oT hT ts hdT
  have he2 : g2.get? a = some oe := (sb.2 a aC).trans he
  have hT2 : g2.get? T = some oT := (sb.2 T TC).trans hT
  obtain ⟨B2, eB2⟩ : ∃ B2, B2 = PySem.W.hideAll B [s3.heap.objs.size] := ⟨_, rfl⟩
  have ofB : ∀ b o, B2.get? b = some o → B.get? b = some o := fun b o e => by rw [eB2] at e; exact PySem.W.of_hideAll _ e
  have noB : ∀ b, B.get? b = none → B2.get? b = none := fun b e => by
    cases q : B2.get? b with
    | none => rfl
    | some o => rw [ofB b o q] at e; cases e
  have neB : ∀ b o, B2.get? b = some o → b ≠ s3.heap.objs.size := fun b o e z => by
    rw [eB2, z, PySem.W.hideAll_none _ (by simp)] at e
    cases e
  have ff : g2.FunFrames B2 (X.env :: X.outer) := funFrames_none (Heap.FunFrames.sameBut sb hn2 b3) fun L hL => noB L (b3.mem hL).1
  have hh2 : HandSPX.HeldZ B2 (X.env :: X.outer) a (Zc cls d) X.env.locals g2 :=
    ⟨fun b o e => (sb.2 b (neB b o e)).trans (b1 b o (ofB b o e)), noB a b0, ff, oe, vs, T, oT, ts, he2, hz, hd, h1, noB T hnT, hTe, hT2, hdT, h3⟩
  unfold PySem.passOn
  refine wpAny_bind (wpAny_field he2 hd h1 ?_)
  rw [if_neg (show ¬ ((Value.ref T == Value.none) = true) from by simp)]
  rw [show (compEnvC scope cl s3.heap.objs.size X.env).frame = some X.env.locals from hf]
  refine wpAny_bind (HandSPX.setFlight_onZ hh2 fun g3 hh3 up3 => wpAny_throw (tk _ _ ?_))
  have nCH : HY s3.heap.objs.size = none := I.free
  have IX : Inv X pins σ HY sI := I3.call' (ch := fp) I.os I.base I.hok I.bare fun b hb => ⟨(f3 b hb).1.2.2.2.1, (f3 b hb).1.2.1, (f3 b hb).1.2.2.2.2.1, (f3 b hb).1.2.2.2.2.2⟩
  obtain ⟨f0, f1, f2, f4, f5, f6⟩ := I3.fpOk (H' := HY) (Nat.le_refl _) nCH
  have IX2 : Inv X pins σ HY { sI with heap := PySem.W.hideAll sI.heap [s3.heap.objs.size], toks := sI.toks } := IX.turned (t' := sI.toks) (it := s3.heap.objs.size) (fun b o ne e => PySem.W.hideAll_get _ e (by simpa using ne)) f0 f1 f4 f5 f6
  have neI : ∀ b o, (PySem.W.hideAll sI.heap [s3.heap.objs.size]).get? b = some o → b ≠ s3.heap.objs.size := fun b o e z => by
    rw [z, PySem.W.hideAll_none _ (by simp)] at e
    cases e
  have hh3 : HandSPX.HeldZ B2 X.stack a (Zc cls d) X.env.locals g3 := by rw [hs]; exact hh3
  refine ⟨a, B2, { sI with heap := PySem.W.hideAll sI.heap [s3.heap.objs.size], toks := sI.toks }, pins, σ, HY, cls, d, rfl, IX2, fun b o e hb => ?_, fun b o e hnf => ?_, .inr (.inr hh3), na, os, ag, w⟩
  · rw [eB2]
    exact PySem.W.hideAll_get _ (nb b o (PySem.W.of_hideAll _ e) hb) (by simpa using neI b o e)
  · obtain ⟨sl1, e1⟩ := up b o (PySem.W.of_hideAll _ e) hnf
    obtain ⟨sl2, e2⟩ := up1 b _ e1 hnf
    obtain ⟨sl3, e3⟩ := up3 b _ ((sb.2 b (neI b o e)).trans e2) hnf
    exact ⟨sl3, e3⟩
variable {H : Hp} {s : Shared} {elt t0 i0 : Expr} {c0 : List Expr} {own : List (Str × Nat)} {pos pos' : Pos} {wi : TI} {g : TG} {tt : TT} {te : TE}
theorem lcX_core {Q : VK} {use : Option (Value → Sem Unit)} {Qf : Value → Shared → Prop} (hst : X.stack = X.env :: X.outer) (hfr : X.env.frame = some X.env.locals) (tk : Takes X (fun cls d _ H => E0 cls d H))
    (hc : X.calm = true) (hN : X.N.Nodup) (I : Inv X pins σ H s) (hi : PI X t0 i0 wi) (ok : BlkOk X.N X.env.scope scope own)
    (hg : ∀ s H C cl fp, PG (X.blk s H scope (compEnvC scope cl C X.env) fp) t0 g) (ht : ∀ s H C cl fp, PTs (X.blk s H scope (compEnvC scope cl C X.env) fp) c0 tt)
    (he : ∀ s H C cl fp xe, Passes (L2.CX X.prog X.w) (BkX X scope s H C cl fp xe) E0 → PE (BkX X scope s H C cl fp xe) elt te)
    (hs : ∀ x, foldedSetIterable i0 X.env x = pure x)
    (h : tLc wi g tt te (own.map (·.2)) σ H Q)
    (fine : ∀ D C s' m H' (ce : Env), ce.locals = C → Inv X pins σ H' s' → Q (.ref D) H' → s'.heap.Ns C m → FpOk X pins H' C → compEnds (model X.prog X.w) X.A X.xe use Qf (.ref D) ce (.ok .next) s') :
    wpAny (model X.prog X.w) X.A (comprehension (.ListComp elt [⟨t0, i0, c0, 0⟩] scope pos) scope X.env pos' (newList []) false (eval i0 X.env) use) Qf X.xe s := by
  have free : ∀ y ∈ scope.names, y.2 = .free → ∃ c, X.env.cells.lookup y.1 = some c := fun y hy e => (ok.free y hy e).elim (fun k => I.ok.has _ (.inl k)) fun k => I.ok.has _ (.inr k)
  refine comprehension_at (use := use) rfl hs (closure_ok free) ok.kind (fun y hy e => by rw [ok.uniq y hy, e]) (thn (hi.run pins s σ H _ I h) fun xv s1 hx => thn hx fun itv s2 h2 => ?_)
  obtain ⟨it, fp, tn, J, H2, e, I2, T, st2, f2, q⟩ := h2; subst e
  refine wpAny_newObj_type (newEnv_comp ?_) (by show 0 ≤ sizeLine; decide)
  generalize hD : s2.heap.objs.size = D
  obtain ⟨W, ⟨m0, w0⟩, turn⟩ := q D (I2.hok.fresh (Nat.le_of_eq hD))
  generalize hs3 : ({ s2 with heap := s2.heap.push { cls := .type "list", data := .seq ([] : List Value).toArray } } : Shared) = s3
  have I3 : Inv X pins σ (upd H2 D (.lst [])) s3 := by
    rw [← hs3]
    refine I2.laid (t' := s2.toks) (fun b z e => Heap.get?_push_of_some _ e) (Nat.le_of_eq hD) ⟨Nat.zero_le _, [], 0, .nil, ?_⟩
    rw [← hD]
    exact Heap.get?_push_size _ rfl
  have h3 : s3.heap = s2.heap.push { cls := .type "list", data := .seq ([] : List Value).toArray } := by rw [← hs3]
  have small : ∀ b ∈ fp, b < s2.heap.objs.size := fun b hb => let ⟨z, e, _⟩ := T.obj _ _ st2 b hb; Heap.lt_size e
  have f3 : ∀ b ∈ fp, FpOk X pins (upd H2 D (.lst [])) b ∧ b < s3.heap.objs.size := fun b hb =>
    ⟨⟨by rw [upd_ne (by rw [← hD]; exact Nat.ne_of_lt (small b hb))]; exact (f2 b hb).1, (f2 b hb).2⟩, by rw [h3, Heap.size_push]; exact Nat.lt_succ_of_lt (small b hb)⟩
  have st3 : tn 0 s3.heap := T.keep _ _ _ st2 fun b _ z e => by rw [h3]; exact Heap.get?_push_of_some _ e
  have I4 := block_start I3 ok hN f3
  have ps := fun cl => out (E0 := E0) (cl := cl) (scope := scope) hst hfr tk I3 f3
  generalize hcl : cellsFrom (s3.heap.objs.size + 1) scope.names (cloFrom X.env.cells scope.names []) = cl at I4 ⊢
  have ps := ps cl
  have pg := hg s3 (upd H2 D (.lst [])) s3.heap.objs.size cl fp
  have pt := ht s3 (upd H2 D (.lst [])) s3.heap.objs.size cl fp
  have pe := he s3 (upd H2 D (.lst [])) s3.heap.objs.size cl fp _ ps
  show codeAny _ _ (.compStart (.ListComp elt [⟨t0, i0, c0, 0⟩] scope pos) 0 (.ref it) (.ref D) (compEnvC scope cl s3.heap.objs.size X.env)) (compEnds (model X.prog X.w) X.A X.xe use Qf (.ref D) (compEnvC scope cl s3.heap.objs.size X.env)) { s3 with heap := pushCells (s3.heap.push { cls := .type "dict", data := .dict #[] }) scope.names }
  have nfp : ∀ b ∈ fp, (upd H2 D (.lst [])) b = none := fun b hb => (f3 b hb).1.1
  have owe : (fun e s' => compEnds (model X.prog X.w) X.A X.xe use Qf (.ref D) (compEnvC scope cl s3.heap.objs.size X.env) (.error e) s') = CompFails (model X.prog X.w) X.A X.xe (compEnvC scope cl s3.heap.objs.size X.env) := by cases use <;> rfl
  clear ps
  unfold BkX owes at pe
  generalize hce : compEnvC scope cl s3.heap.objs.size X.env = ce at I4 pg pt pe owe ⊢
  have cL : ce.locals = s3.heap.objs.size := by subst hce; rfl
  generalize hH3 : upd H2 D (.lst []) = H3 at I3 I4 pg pt pe w0 nfp f3
  generalize hs4 : ({ s3 with heap := pushCells (s3.heap.push { cls := .type "dict", data := .dict #[] }) scope.names } : Shared) = s4 at I4 ⊢
  have st4 : tn 0 s4.heap := T.keep _ _ _ st3 fun b _ z e => by rw [← hs4]; exact pushCells_keeps _ _ _ _ (Heap.get?_push_of_some _ e)
  have stat : ∀ {σ' : L2.St} {H' : Hp} {s' : Shared}, Inv (X.blk s3 H3 scope ce fp) [] σ' H' s' → (∀ b ∈ fp, H' b = none) → ∀ b ∈ fp, FpOk (X.blk s3 H3 scope ce fp) [] H' b :=
    fun {σ' H' s'} I' hn b hb => ⟨hn b hb, (I'.ok.exf b hb).1, I'.ok.exfs b hb, .inl hb, fun x c e => (I'.ok.exf b hb).2 x c e, fun p hp => absurd (show p ∈ ([] : List (Addr × Obj)) ++ [] from hp) (by simp)⟩
  have same : ∀ {P : List (Addr × Obj)} {ch : List Addr} {hp : Heap} {σ' : L2.St} {H' : Hp} {s' : Shared}, Inv (X.blk s3 H3 scope ce fp) (P ++ pinsAt ch hp) σ' H' s' → ∀ b ∈ ch, ∀ z, hp.get? b = some z → s'.heap.get? b = some z ∧ H' b = none :=
    fun {P ch hp σ' H' s'} I' b hb z e => let q := I'.pin (b, z) (List.mem_append_right _ (List.mem_append_right _ (mem_pinsAt hb e))); ⟨q.1, q.2.1⟩
  have loop : codeAny (model X.prog X.w) X.A (.compLoop (.ListComp elt [⟨t0, i0, c0, 0⟩] scope pos) 0 (.ref it) (.ref D) ce) (compEnds (model X.prog X.w) X.A X.xe use Qf (.ref D) ce) s4 := by
    refine compLoop_any (fun n s' => ∃ i H', Inv (X.blk s3 H3 scope ce fp) [] (wipe σ (own.map (·.2))) H' s' ∧ tn i s'.heap ∧ (∀ b ∈ fp, H' b = none) ∧ W i n H') ?_ m0 ⟨0, H3, I4, st4, nfp, w0⟩
    rintro n s5 ⟨i, H5, I5, st5, n5, w5⟩
    rw [owe]
    rcases turn i n H5 w5 with ⟨stop, qq⟩ | ⟨go, N, hNx, step⟩
    · refine thnF (T.done (X.blk s3 H3 scope ce fp) rfl rfl rfl hc i [] s5 _ H5 (fun _ _ => False) I5 (stat I5 n5) st5 stop) fun r s6 ⟨hr, I6⟩ => ?_
      subst hr
      have nC : H5 s3.heap.objs.size = none := by have z : H5 ce.locals = none := I6.free; rwa [cL] at z
      obtain ⟨m, hn, _⟩ := I6.loc
      have hn : s6.heap.Ns ce.locals m := hn
      rw [cL] at hn
      exact fine D s3.heap.objs.size s6 m H5 ce cL (I3.call' (ch := fp) I6.os I6.base I6.hok I6.bare fun b hb => ⟨(f3 b hb).1.2.2.2.1, (f3 b hb).1.2.1, (f3 b hb).1.2.2.2.2.1, (f3 b hb).1.2.2.2.2.2⟩) qq hn (I3.fpOk (Nat.le_refl _) nC)
    · refine thnF (T.item (X.blk s3 H3 scope ce fp) rfl rfl rfl hc i [] s5 _ H5 (fun _ _ => False) I5 (stat I5 n5) st5 go) fun r s6 ⟨u, hr, h6⟩ => ?_
      subst hr
      refine thnF h6 fun _ s7 ⟨x, H7, I7, r7, y7, st7, n7⟩ => thnF (pg.run _ s7 _ H7 x u _ (I7.pinned (stat I7 n7) (T.obj _ _ st7)) r7 (step x H7 y7)) fun _ s8 ⟨σ8, H8, I8, hw8, q8⟩ => thnF (pt.run _ s8 σ8 H8 _ I8 q8) fun b s9 ⟨H9, I9, q9⟩ => ?_
      have fin : ∀ {s' : Shared} {H' : Hp}, Inv (X.blk s3 H3 scope ce fp) ([] ++ pinsAt fp s7.heap) σ8 H' s' → N H' → ∃ m, m < n ∧ ∃ i H', Inv (X.blk s3 H3 scope ce fp) [] (wipe σ (own.map (·.2))) H' s' ∧ tn i s'.heap ∧ (∀ b ∈ fp, H' b = none) ∧ W i m H' := fun {s' H'} I' nx => by
        obtain ⟨m', hm, w'⟩ := hNx H' nx
        exact ⟨m', hm, i + 1, H', (I'.unpinned (pins := [])).weak (by rw [← hw8, wipe_length]) (fun j v e => by rw [← hw8] at e; exact (wipe_some e).1), T.keep _ _ _ st7 fun b hb z e => (same I' b hb z e).1, fun b hb => let ⟨z, e, _⟩ := T.obj _ _ st7 b hb; (same I' b hb z e).2, w'⟩
      cases b with
      | false =>
        simp only [Bool.false_eq_true, if_false] at q9 ⊢
        exact fin I9 q9
      | true =>
        simp only [if_true] at q9 ⊢
        exact thn (pe.run _ s9 σ8 H9 _ (I9.wish _) q9) fun z s10 ⟨yv, H10, I10, r10, acc, hD10, hz10, nx⟩ => app_ok (X := X.blk s3 H3 scope ce fp) (Inv.unwish I10) hD10 hz10 r10 fun s11 I11 => fin I11 nx
  exact codeAny_compStart_list loop (T.self X.A 0 _ _ _ st4 loop)
/-- as a value -/
theorem pe_lcX (hst : X.stack = X.env :: X.outer) (hfr : X.env.frame = some X.env.locals) (tk : Takes X (fun cls d _ H => E0 cls d H)) (hc : X.calm = true) (hN : X.N.Nodup) (hi : PI X t0 i0 wi) (ok : BlkOk X.N X.env.scope scope own)
    (hg : ∀ s H C cl fp, PG (X.blk s H scope (compEnvC scope cl C X.env) fp) t0 g) (ht : ∀ s H C cl fp, PTs (X.blk s H scope (compEnvC scope cl C X.env) fp) c0 tt)
    (he : ∀ s H C cl fp xe, Passes (L2.CX X.prog X.w) (BkX X scope s H C cl fp xe) E0 → PE (BkX X scope s H C cl fp xe) elt te)
    (hs : ∀ x, foldedSetIterable i0 X.env x = pure x := by intro _; rfl) : PE X (.ListComp elt [⟨t0, i0, c0, 0⟩] scope pos) (tLc wi g tt te (own.map (·.2))) := by
  refine ⟨fun pins s σ H Q I h => ?_⟩
  rw [eval_ListComp]
  refine lcX_core hst hfr tk hc hN I hi ok hg ht he hs h fun D C s' m H' ce cL I' q hn f => ?_
  obtain ⟨f0, f1, f2, f3, f4, f5⟩ := f
  refine ⟨m, by rw [cL]; exact hn, fun h'' sb => ?_⟩
  rw [cL] at sb
  exact ⟨.ref D, H', I'.turned (t' := s'.toks) (fun b o hb e => (sb.2 b hb).trans e) f0 f1 f3 f4 f5, rfl, q⟩
/-- name = [..] on one line, the name a local -/
theorem ps_setLcX {i : Nat} {y : Str} {py spos : Pos} (hst : X.stack = X.env :: X.outer) (hfr : X.env.frame = some X.env.locals) (tk : Takes X (fun cls d _ H => E0 cls d H)) (hc : X.calm = true) (hN : X.N.Nodup) (hy1 : X.N[i]? = some y) (hy2 : X.env.scope.names.lookup y = some .local)
    (hsw : swapsWith (.ListComp elt [⟨t0, i0, c0, 0⟩] scope pos) (some (.Name y py)) spos.line X.env = pure true) (hi : PI X t0 i0 wi) (ok : BlkOk X.N X.env.scope scope own)
    (hg : ∀ s H C cl fp, PG (X.blk s H scope (compEnvC scope cl C X.env) fp) t0 g) (ht : ∀ s H C cl fp, PTs (X.blk s H scope (compEnvC scope cl C X.env) fp) c0 tt)
    (he : ∀ s H C cl fp xe, Passes (L2.CX X.prog X.w) (BkX X scope s H C cl fp xe) E0 → PE (BkX X scope s H C cl fp xe) elt te)
    (hs : ∀ x, foldedSetIterable i0 X.env x = pure x := by intro _; rfl) : PS X (.Assign [.Name y py] (.ListComp elt [⟨t0, i0, c0, 0⟩] scope pos) spos) (tAsg (tLc wi g tt te (own.map (·.2))) (gName i)) := by
  refine ⟨fun pins s σ H B I h => ?_⟩; rw [exec_Assign_Name_used _ _ _ _ hsw]
  have h : tLc wi g tt te (own.map (·.2)) σ H (fun x H1 => gName i x σ H1 B.nx) := h
  refine wpAny_bind (wpAny_standAt (wpAny_bind (?_ : wpAny _ X.A (do let _ ← comprehension (.ListComp elt [⟨t0, i0, c0, 0⟩] scope pos) scope X.env (firstIterPos [⟨t0, i0, c0, 0⟩] pos) (newList []) false (eval i0 X.env) (some (assign (.Name y py) X.env))) _ _ s)))
  refine wpAny_bind (thn (lcX_core (Qf := fun _ s' => SP X pins B .next s') hst hfr tk hc hN I hi ok hg ht he hs h fun L C s' m H' ce cL I' q hn f => (?_ : wpAny _ _ (assign (.Name y py) X.env (.ref L)) _ _ _)) fun _ s' hq => wpAny_pure (wpAny_pure hq))
  refine wpAny_assign_Name (store_ok2 (v := V.ref L) I' hN hy1 (.inl hy2) rfl (fun s2 I2 ⟨a, sb, ha⟩ => ?_) (.inr hy2))
  obtain ⟨g0, g1, g2, g3, g4, g5⟩ := f
  have na : C ≠ a := ha.elim (fun z => by rw [z]; exact g1) fun z e => g4 y a z e.symm
  rw [cL]
  exact ⟨m, hn.sameBut sb na, fun h3 sb3 => ⟨_, H', I2.turned (t' := s2.toks) (fun b z hb e => (sb3.2 b hb).trans e) g0 g1 g3 g4 g5, q⟩⟩
end
end Xlx
set_option Elab.async false
set_option linter.all false
set_option maxRecDepth 100000
set_option maxHeartbeats 4000000
set_option pp.maxSteps 400
set_option pp.deepTerms false
namespace K69
open PySem PySem.Spec PyProof.Rows L2
open Xk Az Xtx Xst
section
variable {P : Program} {w : World} {K : PySem.W.Frag} {mg : Str → Option Value} {base : Heap} {C CL : Addr}
structure Lst (P : Program) (w : World) (K : PySem.W.Frag) (mg : Str → Option Value) (base : Heap) (CI : Addr) (f : Addr) (fd : FuncData) : Prop where
  mm : Mk K CI f
  ok : FnOk P w K mg base CX0 1 f fd ["self", "entries"] (spLg CI)
  b1 : Binds K fd ["self", "entries"] []
  b0 : ∃ ds, Vals [.non] ds ∧ Binds K fd ["self", "entries"] ds
theorem lst_mk {f CI : Addr} {fd : FuncData} (mm : Mk K CI f) (F : FunD K "__init__" "Listing.__init__" (defArgs sListingInit) (defBody sListingInit) (defScope sListingInit) [.non] [] f fd)
    (ok : FnOk P w K mg base CX0 1 f fd ["self", "entries"] (spLg CI)) : Lst P w K mg base CI f fd := by
  refine ⟨mm, ok, ?_, F.binds1 (ps := ["self", "entries"]) 1 0 (by simp) rfl fun T kV doc pm an cdv ct us its h1 h2 => by
    match us, its, h1, h2 with
    | [_], [_], _, _ => exact ⟨_, rfl, rfl⟩⟩
  obtain ⟨ds, r, b⟩ := F.binds1 (ps := ["self", "entries"]) 2 1 (by simp) rfl fun T kV doc pm an cdv ct us its h1 h2 => by
    match us, its, h1, h2 with
    | [_, _], [_], _, _ => exact ⟨_, rfl, rfl⟩
  cases r
  exact b
def spRdL (K : PySem.W.Frag) (e : Ex) : Sp := fun vs H Q E => ∃ v : V, vs = [v] ∧ Thn K H v ∧ v ≠ .str "" ∧ ∀ H', L2.Same H H' → Rz e H' (.int 0) (.str "entry") E
def spRd0 (CI : Addr) : Sp := fun vs H Q _ => vs = [.str ""] ∧ ∀ x H', H x = none → LiAt CI H' x → L2.Same H H' → Q (.ref x) H'
theorem ok_rlst {f : Addr} {fd : FuncData} {e : Ex} {CI : Addr} {fN fR fS fI : Addr} {fdN fdS fdI : FuncData} (D : Df K mg "read_listing" ["text"] sReadListing f fd) (T : Txt K mg C CL e) (L : LiC K mg CI) (N : Nt P w K mg base e fN fdN) (G : Lst P w K mg base CI fI fdI) (S : Sd P w K mg base "entry" e fR fS fdS) (gR : mg "entry_in" = some (.ref fR)) : FnOk P w K mg base (L2.CX P w) 11 f fd ["text"] (spRdL K e) := by
  refine D.fn.okX scReadListing (fun vs H Q E h => ?_) (fun cdv A outer s H vs Q E hr h => ?_)
  · obtain ⟨v, rfl, th, hne, q⟩ := h
    rfl
  · obtain ⟨v, rfl, th, hne, q⟩ := h
    refine ⟨_, (pss_cons (ps_if (pt_not (pt_val (pe_callB call_isi (by rfl) T.isi (by decide +kernel) (pa_cons (pv 0) (pa_cons (pe_bltn (v := .ty "str") (by rfl) T.str (by decide +kernel) rfl) pa_nil))))) (pss_one (ps_raise rfl (takes_of rfl rfl rfl rfl) (pmk_oex T.oex N.at_ N.ty N.ok (hr.mono (by decide)) N.bd .nil pass0 (by rfl) T.mNoText (pa_cons pe_int (pa_cons pe_str pa_nil))))) pss_nil)
      (pss_cons (ps_set (i := 1) scReadListing.nd rfl (.inl rfl) (pe_ifExp (pt_cmpR op_eq (pv 0) pe_str (nomark _)) (pe_lst pa_nil) (pe_m1 F.slot_str_split F.type_str_split mt_split (pv 0) pe_str)))
      (pss_one (ps_ret (pe_make G.mm G.ok (hr.mono (by decide)) (by rfl) L.mgI G.b1 .nil pass0 (pa_cons (pe_callTy call_tuple_of (by rfl) T.tuple (by decide +kernel) (pa_cons (Xlx.pe_lcX (E0 := E) (own := [("number", 2), ("line", 3)]) (g := (gTup K 2 (gCons (gName 2) (gCons (gName 3) gNil)))) (tt := tYes) (te := tCall (spSoN K "entry" e fR) [] E (tCons (tC (.ref fR)) (tCons (tVar 3) (tCons (tC (.str "entry")) (tCons (tVar 2) tNil))))) rfl rfl (takes_of rfl rfl rfl rfl) (by rfl) scReadListing.nd (pi_enum (by rfl) T.enumerate (pa_cons (pv 1) pa_nil)) (blkOk_by (own := [("number", 2), ("line", 3)]) (N := ["text", "lines", "number", "line"]) (sc := defScope sReadListing) (by decide +kernel)) (fun _ _ _ _ _ => pg_tup (by rfl) (pgs_cons (pg_name (i := 2) scReadListing.nd rfl (.inl rfl)) (pgs_cons (pg_name (i := 3) scReadListing.nd rfl (.inl rfl)) pgs_nil))) (fun _ _ _ _ _ => pts_nil) (fun _ _ _ _ _ _ ps => pe_call S.ok (hr.mono (by decide)) (by rfl) S.mgf S.kp S.b0 .nil ps (pa_cons (pe_glob (v := .ref fR) (by rfl) gR rfl) (pa_cons (pv 3) (pa_cons pe_str (pa_cons (pv 2) pa_nil)))))) pa_nil)) pa_nil)))))), ?_⟩
    rcases th with ⟨x, rfl, bl⟩ | ⟨ty, ht, kt⟩
    · have ty : TyX K H (.str x) (.type "str") := .base (.str _)
      have xne : decide (V.str x = V.str "") = false := decide_eq_false hne
      refine ⟨_, rfl, _, _, _, _, true, rfl, .ty _, ty, kit_ty (by decide +kernel), _, rfl, iteF ⟨_, rfl, rfl, _, rfl, ?_⟩⟩
      rw [xne]
      refine iteF ⟨_, rfl, ⟨_, rfl⟩, x, "\n", rfl, rfl, rfl, Nat.le_trans (show _ ≤ 60000 by have := bl.2; omega) (by decide), fun S0 nS => ?_⟩
      obtain ⟨p, ps, hp, bp⟩ := bl_first bl
      rw [hp]
      have sS := same_upd nS (o := .lst ((p :: ps).map V.str))
      have eS : (L2.upd H S0 (.lst ((p :: ps).map V.str))) S0 = some (.lst ((p :: ps).map V.str)) := upd_same
      generalize hH1 : L2.upd H S0 (.lst ((p :: ps).map V.str)) = H1 at sS eS ⊢
      refine ⟨_, rfl, S0, _, rfl, SqL.of eS, fun D nD => ?_⟩
      have sD := same_upd nD (o := .lst [])
      have eSD := sD _ _ eS
      refine lc_it (walk_enum (K := K) (a := S0) (xs := (p :: ps).map V.str)) (fun i Hi => i = 0 ∧ Hi = L2.upd H1 D (.lst [])) ⟨rfl, rfl⟩ (fun i Hi _ z => by rw [z.2]; exact SqL.of eSD) ?_ ?_
      · rintro i x1 Hx H' il ⟨rfl, hx⟩ ⟨t, y1, y2, rfl, nt, rfl, ex1, ey1⟩
        have sDx : L2.Same H1 Hx := by rw [hx]; exact sD
        clear hx
        cases ex1
        replace ey1 : some (V.str p) = some y2 := ey1
        cases ey1
        have st := same_upd nt (o := .tup [.int (0 : Nat), .str p])
        have et : (L2.upd Hx t (.tup [.int (0 : Nat), .str p])) t = some (.tup [.int (0 : Nat), .str p]) := upd_same
        generalize L2.upd Hx t (.tup [.int (0 : Nat), .str p]) = H3 at st et ⊢
        refine ⟨t, _, rfl, SqT.of et, rfl, _, _, rfl, _, _, rfl, rfl, rfl, ?_⟩
        exact ⟨_, rfl, _, rfl, .str p, 0, rfl, .inl ⟨p, rfl, bp⟩, fun H4 s4 => q H4 (((sS.trans sDx).trans st).trans s4)⟩
      · rintro Hx ⟨z, _⟩
        cases z
    · refine ⟨_, rfl, _, _, _, _, false, rfl, .ty _, ht, kt, _, rfl, iteT ⟨(by show 2 ≤ 1000; decide), raised (q H (Same.refl H))⟩⟩
theorem ok_rls0 {f : Addr} {fd : FuncData} {e : Ex} {CI : Addr} {fI : Addr} {fdI : FuncData} (D : Df K mg "read_listing" ["text"] sReadListing f fd) (T : Txt K mg C CL e) (L : LiC K mg CI) (G : Lst P w K mg base CI fI fdI) : FnOk P w K mg base CX0 11 f fd ["text"] (spRd0 CI) := by
  refine D.fn.ok scReadListing (fun vs H Q E h => ?_) (fun cdv A outer s H vs Q E hr h => ?_)
  · obtain ⟨rfl, q⟩ := h
    rfl
  · obtain ⟨rfl, q⟩ := h
    refine ⟨_, (pss_cons (ps_if (pt_not (pt_val (pe_callB call_isi (by rfl) T.isi (by decide +kernel) (pa_cons (pv 0) (pa_cons (pe_bltn (v := .ty "str") (by rfl) T.str (by decide +kernel) rfl) pa_nil))))) (pss_one (ps_no)) pss_nil)
      (pss_cons (ps_set (i := 1) scReadListing.nd rfl (.inl rfl) (pe_ifExp (pt_cmpR op_eq (pv 0) pe_str (nomark _)) (pe_lst pa_nil) (pe_m1 F.slot_str_split F.type_str_split mt_split (pv 0) pe_str)))
      (pss_one (ps_ret (pe_make G.mm G.ok (hr.mono (by decide)) (by rfl) L.mgI G.b1 .nil pass0 (pa_cons (pe_callTy call_tuple_of (by rfl) T.tuple (by decide +kernel) (pa_cons (pe_lc (own := [("number", 2), ("line", 3)]) (g := (gTup K 2 (gCons (gName 2) (gCons (gName 3) gNil)))) (tt := tYes) (te := (fun _ _ _ => False)) (by rfl) scReadListing.nd (pi_enum (by rfl) T.enumerate (pa_cons (pv 1) pa_nil)) (blkOk_by (own := [("number", 2), ("line", 3)]) (N := ["text", "lines", "number", "line"]) (sc := defScope sReadListing) (by decide +kernel)) (fun _ _ _ _ _ => pg_tup (by rfl) (pgs_cons (pg_name (i := 2) scReadListing.nd rfl (.inl rfl)) (pgs_cons (pg_name (i := 3) scReadListing.nd rfl (.inl rfl)) pgs_nil))) (fun _ _ _ _ _ => pts_nil) (fun _ _ _ _ _ => pe_no)) pa_nil)) pa_nil)))))), ?_⟩
    have ty : TyX K H (.str "") (.type "str") := .base (.str _)
    have e0 : decide (V.str "" = V.str "") = true := decide_eq_true rfl
    refine ⟨_, rfl, _, _, _, _, true, rfl, .ty _, ty, kit_ty (by decide +kernel), _, rfl, iteF ⟨_, rfl, rfl, _, rfl, ?_⟩⟩
    rw [e0]
    refine iteT ⟨(by show 0 ≤ sizeLine; decide), fun S0 nS => ?_⟩
    have sS := same_upd nS (o := .lst [])
    have eS : (L2.upd H S0 (.lst [])) S0 = some (.lst []) := upd_same
    have xS : ∀ b, (L2.upd H S0 (.lst [])) b = none → H b = none := fun b e => by
      cases c : H b with
      | none => rfl
      | some o => rw [sS _ _ c] at e; cases e
    generalize L2.upd H S0 (.lst []) = H1 at sS eS xS ⊢
    refine ⟨_, rfl, S0, _, rfl, SqL.of eS, fun D nD => ?_⟩
    have sD := same_upd nD (o := .lst [])
    have eSD := sD _ _ eS
    refine lc_it (g := gTup K 2 (gCons (gName 2) (gCons (gName 3) gNil))) (tt := tYes) (te := fun _ _ _ => False) (walk_enum (K := K) (a := S0) (xs := [])) (fun i Hi => Hi = L2.upd H1 D (.lst [])) rfl (fun i Hi _ z => by rw [z]; exact SqL.of eSD) ?_ ?_
    · intro i y Hi H' hi
      exact absurd hi (Nat.not_lt_zero _)
    · rintro Hi rfl
      refine ⟨_, _, rfl, .inl ⟨SqL.of upd_same, fun t nt => ?_⟩⟩
      have st := same_upd nt (o := .tup [])
      have et : (L2.upd (L2.upd H1 D (.lst [])) t (.tup [])) t = some (.tup []) := upd_same
      have s2 := (sS.trans sD).trans st
      have x2 : ∀ b, (L2.upd (L2.upd H1 D (.lst [])) t (.tup [])) b = none → H b = none := fun b e => by
        cases c : H b with
        | none => rfl
        | some o => rw [s2 _ _ c] at e; cases e
      generalize L2.upd (L2.upd H1 D (.lst [])) t (.tup []) = H2 at et s2 x2 ⊢
      intro x dx nx ndx ne
      have tx : t ≠ x := fun z => by rw [z, nx] at et; cases et
      have tdx : t ≠ dx := fun z => by rw [z, ndx] at et; cases et
      refine ⟨x, dx, .ref t, rfl, upd_same, .inr ⟨t, rfl, by rw [upd_ne tx, upd_ne tdx]; exact et⟩, fun H' li keep => ⟨rfl, ?_⟩⟩
      refine q x H' (x2 _ nx) li fun b o e => keep b o (fun z => by rw [z, x2 _ nx] at e; cases e) ?_
      have e2 := s2 _ _ e
      rw [upd_ne (fun z => by rw [z, nx] at e2; cases e2), upd_ne (fun z => by rw [z, ndx] at e2; cases e2)]
      exact e2
end
end K69
set_option Elab.async false
set_option linter.all false
set_option maxRecDepth 100000
set_option maxHeartbeats 4000000
/-! tuple * int from nought on; list * int whose list is no table of modules -/
namespace Xrp
open PySem PySem.Spec PyProof.Rows L2
theorem mul0 (l : Addr) (items : Array Value) (n : Nat) (dd : Option Addr) (sl : Array (Option Value)) (u : Tok) (ne : items.isEmpty = false) :
    Meets (Builtin.«tuple.__mul__» ⟨[.ref l, .int 0 u], []⟩) (fun _ R s =>
      s.heap.get? l = some { cls := .type "tuple", dict := dd, data := .seq items n, slots := sl } ∧
      R (.ok (.ret (Value.ref s.heap.objs.size))) { s with heap := s.heap.push { cls := Value.type "tuple", data := Data.seq #[] }, toks := s.toks }) :=
  .of_wp fun prog w A R s h => by
    obtain ⟨hp, g, d, tk, os⟩ := s
    obtain ⟨hl, h⟩ := h
    have f1 := AutoSeq1.idx_int
    wp_walk using wpAny_loadPart' hl
    exact ⟨_, rfl, h⟩
theorem mul1 (l : Addr) (items : Array Value) (n : Nat) (dd : Option Addr) (sl : Array (Option Value)) (u : Tok) :
    Meets (Builtin.«tuple.__mul__» ⟨[.ref l, .int 1 u], []⟩) (fun _ R s =>
      s.heap.get? l = some { cls := .type "tuple", dict := dd, data := .seq items n, slots := sl } ∧ R (.ok (.ret (.ref l))) s) :=
  .of_wp fun prog w A R s h => by
    obtain ⟨hp, g, d, tk, os⟩ := s
    obtain ⟨hl, h⟩ := h
    have f1 := AutoSeq1.idx_int
    have c1 : (items.isEmpty || ((1 : Int) == 1)) = true := by simp
    wp_walk using wpAny_loadPart' hl
    repeat (first
      | (refine wpAny_ite_true (decide_eq_true c1) ?_; wp_walk using wpAny_loadPart' hl)
      | (refine wpAny_ite_true c1 ?_; wp_walk using wpAny_loadPart' hl))
    exact ⟨_, rfl, h⟩
section
variable {X : Cx}
def rRepU (K : PySem.W.Frag) : R2 := fun x y H Q => ∃ l k xs, x = .ref l ∧ y = .int k ∧ H l = some (.tup xs) ∧ xs ≠ [] ∧ 0 ≤ k ∧ k ≤ 1000 ∧ xs.length ≤ 1000 ∧ ∀ p H', L2.Same H H' → H' p = some (.tup (List.replicate k.toNat xs).flatten) → Q (.ref p) H'
theorem op_repU : OpR X (binaryOp .Mult) (rRepU X.K) := by
  intro pins s σ H x y v u Q I rx ry h
  obtain ⟨l, k, xs, rfl, rfl, hT, hne, h1, h2, hz, q⟩ := h
  rcases Int.lt_or_le k 2 with c | c
  · cases rx
    obtain ⟨t, rfl⟩ := ry
    obtain ⟨its, r, ⟨⟨cls, dd, data, sl⟩, ho, hc, n, hd⟩, hs⟩ := I.tuple (SqT.of hT)
    simp only at hc hd
    subst hc hd
    have hi : its.toArray.isEmpty = false := by
      cases its with
      | nil =>
        cases r
        exact absurd rfl hne
      | cons a b => rfl
    have k01 : k = 0 ∨ k = 1 := by omega
    rcases k01 with rfl | rfl
    · refine wpAny_binaryOp_repeat_ref (T := "tuple") (U := "int") (by decide) ⟨_, ho, rfl⟩
        (fun s' => typeIs_int s' 0 t) noFill_tuple_mul F.fills_int_mul F.slot_int_rmul repeat_tuple
        F.slot_int_index.lookup (call_meets F.slot_int_rmul (typeIs_int s 0 t) F.entry_int_rmul
          (F.args_int_rmul_2 _ _) (int_rmul_tuple 0 t l its.toArray n dd sl) ⟨ho, rfl, ⟨_, ho, rfl⟩, ?_⟩)
      refine call_meets F.slot_tuple_mul ⟨_, ho, rfl⟩ F.entry_tuple_mul (F.args_tuple_mul_2 _ _) (mul0 l its.toArray n dd sl t hi) ⟨ho, ?_⟩
      have nw := I.hok.fresh (Nat.le_refl s.heap.objs.size)
      refine ⟨.ref s.heap.objs.size, _, I.laid (t' := s.toks) (o := .tup []) (fun b ob z => Heap.get?_push_of_some _ z) (Nat.le_refl _) ?_, rfl, q _ _ (fun b o z => by rw [upd_ne (ne_of_none z nw)]; exact z) upd_same⟩
      exact ⟨Nat.zero_le _, [], .nil, IsTup.new _ _⟩
    · refine wpAny_binaryOp_repeat_ref (T := "tuple") (U := "int") (by decide) ⟨_, ho, rfl⟩
        (fun s' => typeIs_int s' 1 t) noFill_tuple_mul F.fills_int_mul F.slot_int_rmul repeat_tuple
        F.slot_int_index.lookup (call_meets F.slot_int_rmul (typeIs_int s 1 t) F.entry_int_rmul
          (F.args_int_rmul_2 _ _) (int_rmul_tuple 1 t l its.toArray n dd sl) ⟨ho, rfl, ⟨_, ho, rfl⟩, ?_⟩)
      refine call_meets F.slot_tuple_mul ⟨_, ho, rfl⟩ F.entry_tuple_mul (F.args_tuple_mul_2 _ _) (mul1 l its.toArray n dd sl t) ⟨ho, ?_⟩
      exact ⟨.ref l, H, I, rfl, q l H (Same.refl H) (by rw [hT]; simp)⟩
  · exact op_repT pins s σ H _ _ v u Q I rx ry ⟨l, k, xs, rfl, rfl, SqT.of hT, hne, c, h2, hz, fun p np => q p _ (fun b o z => by rw [upd_ne (ne_of_none z np)]; exact z) upd_same⟩
def rRepZ : R2 := fun x y H Q => ∃ l k xs, x = .ref l ∧ y = .int k ∧ H l = some (.lst xs) ∧ 0 ≤ k ∧ k ≤ 1000 ∧ xs.length ≤ 1000 ∧ ∀ p, H p = none → p ≠ sysModules → Q (.ref p) (upd H p (.lst (List.replicate k.toNat xs).flatten))
theorem op_repZ : OpR X (binaryOp .Mult) rRepZ := by
  intro pins s σ H x y v u Q I rx ry h
  obtain ⟨l, k, xs, rfl, rfl, hL, h1, h2, hz, q⟩ := h
  have sz : xs.length * k.toNat ≤ sizeLine := Nat.le_trans (Nat.mul_le_mul hz (show k.toNat ≤ 1000 by omega)) (by decide)
  cases rx
  obtain ⟨t, rfl⟩ := ry
  obtain ⟨z, its, n, r, hl, e⟩ := I.lstM hL
  have w1 : its.toArray.size * k.toNat ≤ sizeLine := by rw [List.size_toArray, ← hl]; exact sz
  have w2 : ¬ its.toArray.size * k.toNat > (2 ^ 63 - 1) / 8 := fun y => by
    have : (sizeLine : Nat) ≤ (2 ^ 63 - 1) / 8 := by decide
    omega
  have w3 : ¬ (!Builtin.List.listFitsIndex k) = true := fun y => by
    rw [fitsIndex_both (by omega) (by omega)] at y
    cases y
  have w4 : ¬ Builtin.List.listTooLong (its.toArray.size * k.toNat) = true := fun y => by
    rw [notLongL w1] at y
    cases y
  have w5 : (List.replicate (if its.toArray.isEmpty = true then 0 else k.toNat) its.toArray).foldl (fun a b => a ++ b) #[] = (List.replicate k.toNat its).flatten.toArray := by
    cases its with
    | nil => simp
    | cons a r' =>
      rw [if_neg (by simp)]
      exact size_rep _ _
  refine wpAny_binaryOp_repeat_ref (T := "list") (U := "int") (by decide) ⟨_, e, rfl⟩
    (fun s' => typeIs_int s' k t) noFill_list_mul F.fills_int_mul F.slot_int_rmul repeat_list
    F.slot_int_index.lookup (call_meets F.slot_int_rmul (typeIs_int s k t) F.entry_int_rmul
      (F.args_int_rmul_2 _ _) (int___rmul___int_list k t l its.toArray n) ⟨e, rfl, ⟨_, e, rfl⟩, ?_⟩)
  refine call_meets F.slot_list_mul ⟨_, e, rfl⟩ F.entry_list_mul
    (F.args_list_mul_2 _ _) (AutoListH.list___mul___list_int_3 l its.toArray n k t w3 w2 w4) ⟨e, ?_⟩
  rw [w5]
  refine ⟨.ref _, _, I.lnew (t' := s.toks) (r.rep k.toNat) ?_, rfl, q _ I.fresh (Nat.ne_of_gt I.big)⟩
  rw [PyProof.Rows.lm_len_rep_flat, Nat.mul_comm]
  exact sz
end
end Xrp
set_option Elab.async false
set_option linter.all false
set_option maxRecDepth 100000
set_option maxHeartbeats 4000000
set_option pp.maxSteps 400
set_option pp.deepTerms false
namespace K69
open PySem PySem.Spec PyProof.Rows L2
open Xk Az Xtx Xst
section
variable {P : Program} {w : World} {K : PySem.W.Frag} {mg : Str → Option Value} {base : Heap} {C CL : Addr}
/-- a thing that is no text: data, or the Day, or the Length -/
inductive Thg (K : PySem.W.Frag) (C CL h : Addr) (H : Hp) : V → Prop
  | dat {v : V} {d : PyData} (a : Dz K (del H h) v d) (b : Nice d 40 3000) (c : kindD d ≠ "str") : Thg K C CL h H v
  | day {a : Addr} (e : DayAt C H a 1931 (some 4) (some 7)) (n : a ≠ h) : Thg K C CL h H (.ref a)
  | len {a : Addr} (e : LenAt CL H a 187) (n : a ≠ h) : Thg K C CL h H (.ref a)
theorem Thg.but {C CL h : Addr} {H H' : Hp} {v : V} (x : Thg K C CL h H v) (b : But h H H') : Thg K C CL h H' v := by
  cases x with
  | dat a c k => exact .dat (a.same (off_but b)) c k
  | day e n => obtain ⟨dx, e⟩ := e; exact .day ⟨dx, b _ _ n e⟩ n
  | len e n => obtain ⟨dx, e⟩ := e; exact .len ⟨dx, b _ _ n e⟩ n
theorem Thg.same {C CL h : Addr} {H H' : Hp} {v : V} (x : Thg K C CL h H v) (s : L2.Same H H') : Thg K C CL h H' v := x.but (Same.but s h)
theorem made_same {H : Hp} {o dx c : Addr} (no : H o = none) (nd : H dx = none) : L2.Same H (L2.upd (L2.upd H dx (.own o)) o (.ins c dx [])) := fun b z e => by
  rw [upd_ne (ne_of_none e no), upd_ne (ne_of_none e nd)]
  exact e
def kyz (k : Int) : PyData := .tuple [.str "ab", .int k]
def kyz5 (k : Int) : PyData := .tuple [.str "ab", .int k, .none, .none, .none, .none, .none]
theorem kyz_nice {k : Int} (h0 : 0 ≤ k) (h1 : k < 9) : Nice (kyz k) 40 3000 ∧ Nice (kyz5 k) 40 3000 := by
  have : k = 0 ∨ k = 1 ∨ k = 2 ∨ k = 3 ∨ k = 4 ∨ k = 5 ∨ k = 6 ∨ k = 7 ∨ k = 8 := by omega
  rcases this with rfl | rfl | rfl | rfl | rfl | rfl | rfl | rfl | rfl <;> exact ⟨⟨by decide +kernel, by decide +kernel, by decide +kernel⟩, ⟨by decide +kernel, by decide +kernel, by decide +kernel⟩⟩
theorem nice_tupN {d : PyData} {k n : Nat} (h : Nice d k n) : Nice (.tuple [d, .none]) (k + 1) (n + 10) := by
  have h1 : piled (PyData.shownAll [d, .none]) ≤ n + 8 := by
    simp only [PyData.shownAll, piled_cons, piled_nil]
    have := h.sz
    have : PyData.none.shown.length = 4 := by decide +kernel
    omega
  refine ⟨by simp [PyData.showable, PyData.showableAll, h.sh], ?_, ?_⟩
  · simp only [PyData.depth, PyData.depthAll]
    have := h.dp
    omega
  · simp only [PyData.shown]
    have z := fmt_text (PyData.shownAll [d, .none])
    omega
def spThings (K : PySem.W.Frag) (C CL : Addr) : Sp := fun vs H Q _ => ∃ (h : Addr) (n : Int), vs = [.ref h] ∧ Hand n H h ∧ n + 100 ≤ 1000000 ∧
  ∀ (l : Addr) (us : List V) (H' : Hp), H' l = some (.lst us) → l ≠ h → us.length ≤ 30 → (∀ u ∈ us, Thg K C CL h H' u) → Hand (n + 100) H' h → But h H H' → Q (.ref l) H'
theorem ok_things {f : Addr} {fd : FuncData} {e : Ex} {fG gG : Addr} {fdG gdG : FuncData} (D : Df K mg "_law_things" ["_law_hand_here"] sThings f fd) (T : Txt K mg C CL e) (cT : Ca P w K mg base 1 "_law_take" ["_law_hand_here", "_law_many"] spTake) (cP : Ca P w K mg base 2 "_law_pick" ["_law_hand_here", "_law_some"] spPick) (G : Dc P w K mg base C fG fdG) (GL : Lc P w K mg base CL gG gdG) : FnOk P w K mg base CX0 9 f fd ["_law_hand_here"] (spThings K C CL) := by
  refine D.fn.ok scThings (fun vs H Q E h => ?_) (fun cdv A outer s H vs Q E hr h => ?_)
  · obtain ⟨h, n, rfl, hh, hn, q⟩ := h
    rfl
  · obtain ⟨h, n, rfl, hh, hn, q⟩ := h
    refine ⟨_, (pss_cons (ps_par (i := 1) (j := 2) (by rfl) scThings.nd rfl rfl (by decide) rfl rfl (pa_cons (pe_tup (pa_cons pe_str (pa_cons pe_str pa_nil))) (pa_cons (pe_tup (pa_cons pe_str (pa_cons (pe_ca cT hr (by decide) (by rfl) (pa_cons (pv 0) (pa_cons pe_int pa_nil))) pa_nil))) pa_nil)) (by rfl))
      (pss_cons (ps_set (i := 3) scThings.nd rfl (.inl rfl) (pe_lst (pa_cons pe_non (pa_cons pe_bl (pa_cons pe_bl (pa_cons pe_int (pa_cons pe_int (pa_cons (pe_tup pa_nil) (pa_cons (pe_lstZ pa_nil) (pa_cons (pe_dnewK) (pa_cons (pv 1) (pa_cons (pe_tup (pa_cons pe_str pa_nil)) (pa_cons (pe_lstZ (pa_cons pe_str pa_nil)) (pa_cons (pe_disp (pps_cons pe_str pe_int pps_nil) rfl rfl (by simp) (by decide)) (pa_cons (pe_make G.mm G.ok (hr.mono (by decide)) (by rfl) T.mgC G.bd .nil pass0 (pa_cons pe_int (pa_cons pe_int (pa_cons pe_int pa_nil)))) pa_nil)))))))))))))))
      (pss_cons (ps_set (i := 3) scThings.nd rfl (.inl rfl) (pe_op op_cat (pv 3) (pe_lst (pa_cons (pe_make GL.mm GL.ok (hr.mono (by decide)) (by rfl) T.mgL GL.bd .nil pass0 (pa_cons pe_int pa_nil)) (pa_cons (pv 2) (pa_cons (pe_op Xtu.op_catU (pv 2) (pe_op Xrp.op_repU (pe_tup (pa_cons pe_non pa_nil)) pe_int)) (pa_cons (pe_tup (pa_cons (pv 1) (pa_cons (pe_tup pa_nil) pa_nil))) (pa_cons (pe_lstZ (pa_cons (pe_tup (pa_cons pe_str (pa_cons pe_int pa_nil))) pa_nil)) (pa_cons (pe_tup (pa_cons pe_str (pa_cons pe_str pa_nil))) (pa_cons (pe_op op_pow pe_int pe_int) (pa_cons (pe_un un_neg pe_int) pa_nil)))))))))))
      (pss_cons (ps_set (i := 4) scThings.nd rfl (.inl rfl) (pe_ca cP hr (by decide) (by rfl) (pa_cons (pv 0) (pa_cons (pe_lst (pa_cons pe_non (pa_cons pe_str (pa_cons pe_str (pa_cons (pe_tup pa_nil) (pa_cons pe_int (pa_cons pe_bl pa_nil))))))) pa_nil))))
      (pss_cons (ps_for PassesOwn.never rfl (pi_range1 (by rfl) T.range (pa_cons (pe_ca cP hr (by decide) (by rfl) (pa_cons (pv 0) (pa_cons (pe_lst (pa_cons pe_int (pa_cons pe_int (pa_cons pe_int pa_nil)))) pa_nil))) pa_nil)) (pg_name (i := 5) scThings.nd rfl (.inl rfl)) (pss_one (ps_set (i := 4) scThings.nd rfl (.inl rfl) (pe_ix ix_list (pe_lst (pa_cons (pe_tup (pa_cons (pv 4) pa_nil)) (pa_cons (pe_lstZ (pa_cons (pv 4) pa_nil)) (pa_cons (pe_disp (pps_cons pe_str (pv 4) pps_nil) rfl rfl (by simp) (by decide)) (pa_cons (pe_tup (pa_cons (pv 4) (pa_cons pe_non pa_nil))) pa_nil))))) (pe_ca cT hr (by decide) (by rfl) (pa_cons (pv 0) (pa_cons pe_int pa_nil))) (fun _ _ => rfl)))))
      (pss_one (ps_ret (pe_op op_cat (pv 3) (pe_lstZ (pa_cons (pv 4) pa_nil)))))))))), ?_⟩
    have fr : n + 100 ≤ 1000000 := hn
    have gd0 : Good 1931 (some 4) (some 7) := by simp only [Good]; decide +kernel
    refine ⟨(by show 2 ≤ sizeLine; decide), fun t1 nt1 => ?_⟩
    have z1 : L2.Same H (L2.upd H t1 (.tup [.str "de", .str "A"])) := same_upd nt1
    have et1 : (L2.upd H t1 (.tup [.str "de", .str "A"])) t1 = some (.tup [.str "de", .str "A"]) := upd_same
    generalize L2.upd H t1 (.tup [.str "de", .str "A"]) = G1 at z1 et1 ⊢
    refine ⟨_, rfl, h, 9, n, rfl, by decide, by decide, hh.same z1, by show n ≤ 1000000; omega, fun k H1 k0 k1 h1 b1 => ?_⟩
    have bN : But h H H1 := (Same.but z1 h).trans b1
    have tNh : t1 ≠ h := hh.fresh nt1
    have eN : H1 t1 = some (.tup [.str "de", .str "A"]) := b1 _ _ tNh et1
    clear z1 b1
    refine ⟨(by show 2 ≤ sizeLine; decide), fun tu1 ntu1 => ?_⟩
    have zu1 : L2.Same H1 (L2.upd H1 tu1 (.tup [.str "ab", .int k])) := same_upd ntu1
    have etu1 : (L2.upd H1 tu1 (.tup [.str "ab", .int k])) tu1 = some (.tup [.str "ab", .int k]) := upd_same
    generalize L2.upd H1 tu1 (.tup [.str "ab", .int k]) = Gu1 at zu1 etu1 ⊢
    refine ⟨_, _, rfl, ?_⟩
    refine ⟨(by show 0 ≤ sizeLine; decide), fun tu2 ntu2 => ?_⟩
    have zu2 : L2.Same Gu1 (L2.upd Gu1 tu2 (.tup [])) := same_upd ntu2
    have etu2 : (L2.upd Gu1 tu2 (.tup [])) tu2 = some (.tup []) := upd_same
    generalize L2.upd Gu1 tu2 (.tup []) = Gu2 at zu2 etu2 ⊢
    refine ⟨(by show 0 ≤ sizeLine; decide), fun tu3 ntu3 ytu3 => ?_⟩
    have zu3 : L2.Same Gu2 (L2.upd Gu2 tu3 (.lst [])) := same_upd ntu3
    have etu3 : (L2.upd Gu2 tu3 (.lst [])) tu3 = some (.lst []) := upd_same
    generalize L2.upd Gu2 tu3 (.lst []) = Gu3 at zu3 etu3 ⊢
    refine fun tu4 ntu4 => ?_
    have zu4 : L2.Same Gu3 (L2.upd Gu3 tu4 (.dK [])) := same_upd ntu4
    have etu4 : (L2.upd Gu3 tu4 (.dK [])) tu4 = some (.dK []) := upd_same
    generalize L2.upd Gu3 tu4 (.dK []) = Gu4 at zu4 etu4 ⊢
    refine ⟨_, rfl, ?_⟩
    refine ⟨(by show 1 ≤ sizeLine; decide), fun tu5 ntu5 => ?_⟩
    have zu5 : L2.Same Gu4 (L2.upd Gu4 tu5 (.tup [.str "de:A"])) := same_upd ntu5
    have etu5 : (L2.upd Gu4 tu5 (.tup [.str "de:A"])) tu5 = some (.tup [.str "de:A"]) := upd_same
    generalize L2.upd Gu4 tu5 (.tup [.str "de:A"]) = Gu5 at zu5 etu5 ⊢
    refine ⟨(by show 1 ≤ sizeLine; decide), fun tu6 ntu6 ytu6 => ?_⟩
    have zu6 : L2.Same Gu5 (L2.upd Gu5 tu6 (.lst [.str "de:A"])) := same_upd ntu6
    have etu6 : (L2.upd Gu5 tu6 (.lst [.str "de:A"])) tu6 = some (.lst [.str "de:A"]) := upd_same
    generalize L2.upd Gu5 tu6 (.lst [.str "de:A"]) = Gu6 at zu6 etu6 ⊢
    refine fun tu7 ntu7 => ⟨upd_same, [(Sum.inr "de:A", .int 0)], rfl, (by show 1 ≤ 15; decide), ?_⟩
    have zu7 : L2.Same Gu6 (L2.upd (L2.upd Gu6 tu7 (.dK [])) tu7 (.dK (mergeK [] [(Sum.inr "de:A", .int 0)]))) := (by rw [upd_upd]; exact same_upd ntu7)
    have etu7 : (L2.upd (L2.upd Gu6 tu7 (.dK [])) tu7 (.dK (mergeK [] [(Sum.inr "de:A", .int 0)]))) tu7 = some (.dK [(Sum.inr "de:A", .int 0)]) := upd_same
    generalize L2.upd (L2.upd Gu6 tu7 (.dK [])) tu7 (.dK (mergeK [] [(Sum.inr "de:A", .int 0)])) = Gu7 at zu7 etu7 ⊢
    refine fun tu8 dtu8 ntu8 mtu8 qtu8 => ⟨tu8, dtu8, 1931, some 4, some 7, rfl, gd0, upd_same, fun Gu8 ktu8 etu8 => ⟨rfl, ?_⟩⟩
    have zu8 : L2.Same Gu7 Gu8 := fun b z eb => ktu8 b z (made_same ntu8 mtu8 b z eb) (ne_of_none eb ntu8)
    refine ⟨(by show 13 ≤ sizeLine; decide), fun tu9 ntu9 => ?_⟩
    have zu9 : L2.Same Gu8 (L2.upd Gu8 tu9 (.lst [.non, .bl true, .bl false, .int 0, .int 1931, .ref tu2, .ref tu3, .ref tu4, .ref t1, .ref tu5, .ref tu6, .ref tu7, .ref tu8])) := same_upd ntu9
    have etu9 : (L2.upd Gu8 tu9 (.lst [.non, .bl true, .bl false, .int 0, .int 1931, .ref tu2, .ref tu3, .ref tu4, .ref t1, .ref tu5, .ref tu6, .ref tu7, .ref tu8])) tu9 = some (.lst [.non, .bl true, .bl false, .int 0, .int 1931, .ref tu2, .ref tu3, .ref tu4, .ref t1, .ref tu5, .ref tu6, .ref tu7, .ref tu8]) := upd_same
    generalize L2.upd Gu8 tu9 (.lst [.non, .bl true, .bl false, .int 0, .int 1931, .ref tu2, .ref tu3, .ref tu4, .ref t1, .ref tu5, .ref tu6, .ref tu7, .ref tu8]) = Gu9 at zu9 etu9 ⊢
    refine ⟨_, rfl, ?_⟩
    refine fun tu10 dtu10 ntu10 mtu10 qtu10 => ⟨tu10, dtu10, 187, rfl, upd_same, by decide, by decide, fun Gu10 ktu10 etu10 => ⟨rfl, ?_⟩⟩
    have zu10 : L2.Same Gu9 Gu10 := fun b z eb => ktu10 b z (made_same ntu10 mtu10 b z eb) (ne_of_none eb ntu10)
    refine ⟨_, rfl, _, rfl, ?_⟩
    refine ⟨(by show 1 ≤ sizeLine; decide), fun tu11 ntu11 => ?_⟩
    have zu11 : L2.Same Gu10 (L2.upd Gu10 tu11 (.tup [.non])) := same_upd ntu11
    have etu11 : (L2.upd Gu10 tu11 (.tup [.non])) tu11 = some (.tup [.non]) := upd_same
    generalize L2.upd Gu10 tu11 (.tup [.non]) = Gu11 at zu11 etu11 ⊢
    refine ⟨_, _, [.non], rfl, rfl, etu11, by simp, by decide, by decide, by decide, fun tu12 Gu12 zu12 etu12 => ?_⟩
    refine ⟨tu1, tu12, _, _, rfl, rfl, ((((((((((zu2.trans zu3).trans zu4).trans zu5).trans zu6).trans zu7).trans zu8).trans zu9).trans zu10).trans zu11).trans zu12) _ _ etu1, etu12, (by show 7 ≤ sizeLine; decide), fun tu13 Gu13 zu13 etu13 => ?_⟩
    have etu13 : Gu13 tu13 = some (.tup [.str "ab", .int k, .non, .non, .non, .non, .non]) := etu13
    have ftu13 : tu13 ≠ h := by obtain ⟨_, q0⟩ := (h1.same ((((((((((((zu1.trans zu2).trans zu3).trans zu4).trans zu5).trans zu6).trans zu7).trans zu8).trans zu9).trans zu10).trans zu11).trans zu12).trans zu13)).at_; exact ne_of etu13 q0 (by intro z; cases z)
    refine ⟨_, rfl, ?_⟩
    refine ⟨(by show 0 ≤ sizeLine; decide), fun tu14 ntu14 => ?_⟩
    have zu14 : L2.Same Gu13 (L2.upd Gu13 tu14 (.tup [])) := same_upd ntu14
    have etu14 : (L2.upd Gu13 tu14 (.tup [])) tu14 = some (.tup []) := upd_same
    generalize L2.upd Gu13 tu14 (.tup []) = Gu14 at zu14 etu14 ⊢
    refine ⟨(by show 2 ≤ sizeLine; decide), fun tu15 ntu15 => ?_⟩
    have zu15 : L2.Same Gu14 (L2.upd Gu14 tu15 (.tup [.ref t1, .ref tu14])) := same_upd ntu15
    have etu15 : (L2.upd Gu14 tu15 (.tup [.ref t1, .ref tu14])) tu15 = some (.tup [.ref t1, .ref tu14]) := upd_same
    generalize L2.upd Gu14 tu15 (.tup [.ref t1, .ref tu14]) = Gu15 at zu15 etu15 ⊢
    refine ⟨(by show 2 ≤ sizeLine; decide), fun tu16 ntu16 => ?_⟩
    have zu16 : L2.Same Gu15 (L2.upd Gu15 tu16 (.tup [.str "ab", .int 0])) := same_upd ntu16
    have etu16 : (L2.upd Gu15 tu16 (.tup [.str "ab", .int 0])) tu16 = some (.tup [.str "ab", .int 0]) := upd_same
    generalize L2.upd Gu15 tu16 (.tup [.str "ab", .int 0]) = Gu16 at zu16 etu16 ⊢
    refine ⟨(by show 1 ≤ sizeLine; decide), fun tu17 ntu17 ytu17 => ?_⟩
    have zu17 : L2.Same Gu16 (L2.upd Gu16 tu17 (.lst [.ref tu16])) := same_upd ntu17
    have etu17 : (L2.upd Gu16 tu17 (.lst [.ref tu16])) tu17 = some (.lst [.ref tu16]) := upd_same
    generalize L2.upd Gu16 tu17 (.lst [.ref tu16]) = Gu17 at zu17 etu17 ⊢
    refine ⟨(by show 2 ≤ sizeLine; decide), fun tu18 ntu18 => ?_⟩
    have zu18 : L2.Same Gu17 (L2.upd Gu17 tu18 (.tup [.str "1931", .str "0:07"])) := same_upd ntu18
    have etu18 : (L2.upd Gu17 tu18 (.tup [.str "1931", .str "0:07"])) tu18 = some (.tup [.str "1931", .str "0:07"]) := upd_same
    generalize L2.upd Gu17 tu18 (.tup [.str "1931", .str "0:07"]) = Gu18 at zu18 etu18 ⊢
    refine ⟨10, 29, rfl, rfl, ⟨by decide, by decide, by decide⟩, 1, rfl, ?_⟩
    set_option simprocs false in dsimp only
    refine ⟨(by show 8 ≤ sizeLine; decide), fun tu19 ntu19 => ?_⟩
    have zu19 : L2.Same Gu18 (L2.upd Gu18 tu19 (.lst [.ref tu10, .ref tu1, .ref tu13, .ref tu15, .ref tu17, .ref tu18, .int ((10 : Int) ^ (29 : Int).toNat), .int (-1)])) := same_upd ntu19
    have etu19 : (L2.upd Gu18 tu19 (.lst [.ref tu10, .ref tu1, .ref tu13, .ref tu15, .ref tu17, .ref tu18, .int ((10 : Int) ^ (29 : Int).toNat), .int (-1)])) tu19 = some (.lst [.ref tu10, .ref tu1, .ref tu13, .ref tu15, .ref tu17, .ref tu18, .int ((10 : Int) ^ (29 : Int).toNat), .int (-1)]) := upd_same
    generalize L2.upd Gu18 tu19 (.lst [.ref tu10, .ref tu1, .ref tu13, .ref tu15, .ref tu17, .ref tu18, .int ((10 : Int) ^ (29 : Int).toNat), .int (-1)]) = Gu19 at zu19 etu19 ⊢
    refine ⟨tu9, tu19, _, _, rfl, rfl, (((((((((zu10.trans zu11).trans zu12).trans zu13).trans zu14).trans zu15).trans zu16).trans zu17).trans zu18).trans zu19) _ _ etu9, etu19, (by show 21 ≤ sizeLine; decide), fun tu20 ntu20 => ?_⟩
    have zu20 : L2.Same Gu19 (L2.upd Gu19 tu20 (.lst ([.non, .bl true, .bl false, .int 0, .int 1931, .ref tu2, .ref tu3, .ref tu4, .ref t1, .ref tu5, .ref tu6, .ref tu7, .ref tu8] ++ [.ref tu10, .ref tu1, .ref tu13, .ref tu15, .ref tu17, .ref tu18, .int ((10 : Int) ^ (29 : Int).toNat), .int (-1)]))) := same_upd ntu20
    have etu20 : (L2.upd Gu19 tu20 (.lst ([.non, .bl true, .bl false, .int 0, .int 1931, .ref tu2, .ref tu3, .ref tu4, .ref t1, .ref tu5, .ref tu6, .ref tu7, .ref tu8] ++ [.ref tu10, .ref tu1, .ref tu13, .ref tu15, .ref tu17, .ref tu18, .int ((10 : Int) ^ (29 : Int).toNat), .int (-1)]))) tu20 = some (.lst ([.non, .bl true, .bl false, .int 0, .int 1931, .ref tu2, .ref tu3, .ref tu4, .ref t1, .ref tu5, .ref tu6, .ref tu7, .ref tu8] ++ [.ref tu10, .ref tu1, .ref tu13, .ref tu15, .ref tu17, .ref tu18, .int ((10 : Int) ^ (29 : Int).toNat), .int (-1)])) := upd_same
    generalize L2.upd Gu19 tu20 (.lst ([.non, .bl true, .bl false, .int 0, .int 1931, .ref tu2, .ref tu3, .ref tu4, .ref t1, .ref tu5, .ref tu6, .ref tu7, .ref tu8] ++ [.ref tu10, .ref tu1, .ref tu13, .ref tu15, .ref tu17, .ref tu18, .int ((10 : Int) ^ (29 : Int).toNat), .int (-1)])) = Gu20 at zu20 etu20 ⊢
    have all : ∀ u ∈ ([.non, .bl true, .bl false, .int 0, .int 1931, .ref tu2, .ref tu3, .ref tu4, .ref t1, .ref tu5, .ref tu6, .ref tu7, .ref tu8, .ref tu10, .ref tu1, .ref tu13, .ref tu15, .ref tu17, .ref tu18, .int ((10 : Int) ^ (29 : Int).toNat), .int (-1)] : List V), Thg K C CL h Gu20 u := by
      intro u hu
      simp only [List.mem_cons, List.not_mem_nil, or_false] at hu
      rcases hu with rfl | rfl | rfl | rfl | rfl | rfl | rfl | rfl | rfl | rfl | rfl | rfl | rfl | rfl | rfl | rfl | rfl | rfl | rfl | rfl | rfl
      · exact (show Thg K C CL h Gu20 (.non) from .dat (.non) ⟨by decide +kernel, by decide +kernel, by decide +kernel⟩ (by decide)).same (Same.refl Gu20)
      · exact (show Thg K C CL h Gu20 (.bl true) from .dat (.bl _) ⟨by decide +kernel, by decide +kernel, by decide +kernel⟩ (by decide)).same (Same.refl Gu20)
      · exact (show Thg K C CL h Gu20 (.bl false) from .dat (.bl _) ⟨by decide +kernel, by decide +kernel, by decide +kernel⟩ (by decide)).same (Same.refl Gu20)
      · exact (show Thg K C CL h Gu20 (.int 0) from .dat (.int _) ⟨by decide +kernel, by decide +kernel, by decide +kernel⟩ (by decide)).same (Same.refl Gu20)
      · exact (show Thg K C CL h Gu20 (.int 1931) from .dat (.int _) ⟨by decide +kernel, by decide +kernel, by decide +kernel⟩ (by decide)).same (Same.refl Gu20)
      · exact (show Thg K C CL h Gu2 (.ref tu2) from .dat (.tup (off_at ((h1.same zu1).fresh ntu2) etu2) .nil) ⟨by decide +kernel, by decide +kernel, by decide +kernel⟩ (by decide)).same (((((((((((((((((zu3.trans zu4).trans zu5).trans zu6).trans zu7).trans zu8).trans zu9).trans zu10).trans zu11).trans zu12).trans zu13).trans zu14).trans zu15).trans zu16).trans zu17).trans zu18).trans zu19).trans zu20)
      · exact (show Thg K C CL h Gu3 (.ref tu3) from .dat (.lst (off_at ((h1.same (zu1.trans zu2)).fresh ntu3) etu3) ytu3 .nil) ⟨by decide +kernel, by decide +kernel, by decide +kernel⟩ (by decide)).same ((((((((((((((((zu4.trans zu5).trans zu6).trans zu7).trans zu8).trans zu9).trans zu10).trans zu11).trans zu12).trans zu13).trans zu14).trans zu15).trans zu16).trans zu17).trans zu18).trans zu19).trans zu20)
      · exact (show Thg K C CL h Gu4 (.ref tu4) from .dat (.dct (off_at ((h1.same ((zu1.trans zu2).trans zu3)).fresh ntu4) etu4) .nil) ⟨by decide +kernel, by decide +kernel, by decide +kernel⟩ (by decide)).same (((((((((((((((zu5.trans zu6).trans zu7).trans zu8).trans zu9).trans zu10).trans zu11).trans zu12).trans zu13).trans zu14).trans zu15).trans zu16).trans zu17).trans zu18).trans zu19).trans zu20)
      · exact (show Thg K C CL h H1 (.ref t1) from .dat (.tup (off_at tNh eN) (.cons (.str _) (.cons (.str _) .nil))) ⟨by decide +kernel, by decide +kernel, by decide +kernel⟩ (by decide)).same (((((((((((((((((((zu1.trans zu2).trans zu3).trans zu4).trans zu5).trans zu6).trans zu7).trans zu8).trans zu9).trans zu10).trans zu11).trans zu12).trans zu13).trans zu14).trans zu15).trans zu16).trans zu17).trans zu18).trans zu19).trans zu20)
      · exact (show Thg K C CL h Gu5 (.ref tu5) from .dat (.tup (off_at ((h1.same (((zu1.trans zu2).trans zu3).trans zu4)).fresh ntu5) etu5) (.cons (.str _) .nil)) ⟨by decide +kernel, by decide +kernel, by decide +kernel⟩ (by decide)).same ((((((((((((((zu6.trans zu7).trans zu8).trans zu9).trans zu10).trans zu11).trans zu12).trans zu13).trans zu14).trans zu15).trans zu16).trans zu17).trans zu18).trans zu19).trans zu20)
      · exact (show Thg K C CL h Gu6 (.ref tu6) from .dat (.lst (off_at ((h1.same ((((zu1.trans zu2).trans zu3).trans zu4).trans zu5)).fresh ntu6) etu6) ytu6 (.cons (.str _) .nil)) ⟨by decide +kernel, by decide +kernel, by decide +kernel⟩ (by decide)).same (((((((((((((zu7.trans zu8).trans zu9).trans zu10).trans zu11).trans zu12).trans zu13).trans zu14).trans zu15).trans zu16).trans zu17).trans zu18).trans zu19).trans zu20)
      · exact (show Thg K C CL h Gu7 (.ref tu7) from .dat (.dct (off_at ((h1.same (((((zu1.trans zu2).trans zu3).trans zu4).trans zu5).trans zu6)).fresh ntu7) etu7) (.cons (k := Sum.inr "de:A") (.int 0) .nil)) ⟨by decide +kernel, by decide +kernel, by decide +kernel⟩ (by decide)).same ((((((((((((zu8.trans zu9).trans zu10).trans zu11).trans zu12).trans zu13).trans zu14).trans zu15).trans zu16).trans zu17).trans zu18).trans zu19).trans zu20)
      · exact (show Thg K C CL h Gu8 (.ref tu8) from .day etu8 ((h1.same ((((((zu1.trans zu2).trans zu3).trans zu4).trans zu5).trans zu6).trans zu7)).fresh ntu8)).same (((((((((((zu9.trans zu10).trans zu11).trans zu12).trans zu13).trans zu14).trans zu15).trans zu16).trans zu17).trans zu18).trans zu19).trans zu20)
      · exact (show Thg K C CL h Gu10 (.ref tu10) from .len etu10 ((h1.same ((((((((zu1.trans zu2).trans zu3).trans zu4).trans zu5).trans zu6).trans zu7).trans zu8).trans zu9)).fresh ntu10)).same (((((((((zu11.trans zu12).trans zu13).trans zu14).trans zu15).trans zu16).trans zu17).trans zu18).trans zu19).trans zu20)
      · exact (show Thg K C CL h Gu1 (.ref tu1) from .dat (.tup (off_at (h1.fresh ntu1) etu1) (.cons (.str _) (.cons (.int _) .nil))) (kyz_nice k0 k1).1 (by show "tuple" ≠ "str"; decide)).same ((((((((((((((((((zu2.trans zu3).trans zu4).trans zu5).trans zu6).trans zu7).trans zu8).trans zu9).trans zu10).trans zu11).trans zu12).trans zu13).trans zu14).trans zu15).trans zu16).trans zu17).trans zu18).trans zu19).trans zu20)
      · exact (show Thg K C CL h Gu13 (.ref tu13) from .dat (.tup (off_at ftu13 etu13) (.cons (.str _) (.cons (.int _) (.cons .non (.cons .non (.cons .non (.cons .non (.cons .non .nil)))))))) (kyz_nice k0 k1).2 (by show "tuple" ≠ "str"; decide)).same ((((((zu14.trans zu15).trans zu16).trans zu17).trans zu18).trans zu19).trans zu20)
      · exact (show Thg K C CL h Gu15 (.ref tu15) from .dat (.tup (off_at ((h1.same (((((((((((((zu1.trans zu2).trans zu3).trans zu4).trans zu5).trans zu6).trans zu7).trans zu8).trans zu9).trans zu10).trans zu11).trans zu12).trans zu13).trans zu14)).fresh ntu15) etu15) (.cons (.tup (off_at tNh (((((((((((((((zu1.trans zu2).trans zu3).trans zu4).trans zu5).trans zu6).trans zu7).trans zu8).trans zu9).trans zu10).trans zu11).trans zu12).trans zu13).trans zu14).trans zu15) _ _ eN)) (.cons (.str _) (.cons (.str _) .nil))) (.cons (.tup (off_at ((h1.same ((((((((((((zu1.trans zu2).trans zu3).trans zu4).trans zu5).trans zu6).trans zu7).trans zu8).trans zu9).trans zu10).trans zu11).trans zu12).trans zu13)).fresh ntu14) (zu15 _ _ etu14)) .nil) .nil))) ⟨by decide +kernel, by decide +kernel, by decide +kernel⟩ (by decide)).same ((((zu16.trans zu17).trans zu18).trans zu19).trans zu20)
      · exact (show Thg K C CL h Gu17 (.ref tu17) from .dat (.lst (off_at ((h1.same (((((((((((((((zu1.trans zu2).trans zu3).trans zu4).trans zu5).trans zu6).trans zu7).trans zu8).trans zu9).trans zu10).trans zu11).trans zu12).trans zu13).trans zu14).trans zu15).trans zu16)).fresh ntu17) etu17) ytu17 (.cons (.tup (off_at ((h1.same ((((((((((((((zu1.trans zu2).trans zu3).trans zu4).trans zu5).trans zu6).trans zu7).trans zu8).trans zu9).trans zu10).trans zu11).trans zu12).trans zu13).trans zu14).trans zu15)).fresh ntu16) (zu17 _ _ etu16)) (.cons (.str _) (.cons (.int _) .nil))) .nil)) ⟨by decide +kernel, by decide +kernel, by decide +kernel⟩ (by decide)).same ((zu18.trans zu19).trans zu20)
      · exact (show Thg K C CL h Gu18 (.ref tu18) from .dat (.tup (off_at ((h1.same ((((((((((((((((zu1.trans zu2).trans zu3).trans zu4).trans zu5).trans zu6).trans zu7).trans zu8).trans zu9).trans zu10).trans zu11).trans zu12).trans zu13).trans zu14).trans zu15).trans zu16).trans zu17)).fresh ntu18) etu18) (.cons (.str _) (.cons (.str _) .nil))) ⟨by decide +kernel, by decide +kernel, by decide +kernel⟩ (by decide)).same (zu19.trans zu20)
      · exact (show Thg K C CL h Gu20 (.int ((10 : Int) ^ (29 : Int).toNat)) from .dat (.int _) ⟨by decide +kernel, by decide +kernel, by decide +kernel⟩ (by decide)).same (Same.refl Gu20)
      · exact (show Thg K C CL h Gu20 (.int (-1)) from .dat (.int _) ⟨by decide +kernel, by decide +kernel, by decide +kernel⟩ (by decide)).same (Same.refl Gu20)
    have zA : L2.Same H1 Gu20 := (((((((((((((((((((zu1.trans zu2).trans zu3).trans zu4).trans zu5).trans zu6).trans zu7).trans zu8).trans zu9).trans zu10).trans zu11).trans zu12).trans zu13).trans zu14).trans zu15).trans zu16).trans zu17).trans zu18).trans zu19).trans zu20)
    have hA : Hand (n + 1) Gu20 h := h1.same zA
    have lA : tu20 ≠ h := ((h1.same ((((((((((((((((((zu1.trans zu2).trans zu3).trans zu4).trans zu5).trans zu6).trans zu7).trans zu8).trans zu9).trans zu10).trans zu11).trans zu12).trans zu13).trans zu14).trans zu15).trans zu16).trans zu17).trans zu18).trans zu19)).fresh ntu20)
    have bA : But h H Gu20 := bN.trans (Same.but zA h)
    clear zu1 zu2 zu3 zu4 zu5 zu6 zu7 zu8 zu9 zu10 zu11 zu12 zu13 zu14 zu15 zu16 zu17 zu18 zu19 zu20
    obtain ⟨us, eus, al, lus⟩ : ∃ us, Gu20 tu20 = some (.lst us) ∧ (∀ u ∈ us, Thg K C CL h Gu20 u) ∧ us.length = 21 := ⟨_, etu20, all, rfl⟩
    generalize tu20 = L at lA eus ⊢
    clear all
    -- the thing
    refine ⟨_, rfl, (by show 0 ≤ sizeLine; decide), fun tP nP => ⟨(by show 6 ≤ sizeLine; decide), fun lP nlP => ?_⟩⟩
    have sP1 := same_upd nP (o := .tup [])
    have sP2 := same_upd nlP (o := .lst [.non, .str "de:A", .str "1931", .ref tP, .int 7, .bl true])
    have eP : (L2.upd (L2.upd Gu20 tP (.tup [])) lP (.lst [.non, .str "de:A", .str "1931", .ref tP, .int 7, .bl true])) tP = some (.tup []) := sP2 _ _ upd_same
    have elP : (L2.upd (L2.upd Gu20 tP (.tup [])) lP (.lst [.non, .str "de:A", .str "1931", .ref tP, .int 7, .bl true])) lP = some (.lst [.non, .str "de:A", .str "1931", .ref tP, .int 7, .bl true]) := upd_same
    have sP := sP1.trans sP2
    have tPh : tP ≠ h := hA.fresh nP
    have lPh : lP ≠ h := (hA.same sP1).fresh nlP
    generalize L2.upd (L2.upd Gu20 tP (.tup [])) lP (.lst [.non, .str "de:A", .str "1931", .ref tP, .int 7, .bl true]) = HP at sP eP elP ⊢
    clear sP1 sP2 nP nlP
    refine ⟨h, n + 1, _, rfl, hA.same sP, by show n + 1 ≤ 1000000; omega, .inl ⟨lP, _, rfl, elP, lPh, by simp, by show 6 < 1000; decide, fun v0 H2 mv h2 b2 => ?_⟩⟩
    have bP := (Same.but sP h).trans b2
    have bH2 := bA.trans bP
    have eL2 : H2 L = some (.lst us) := bP _ _ lA eus
    have al2 : ∀ u ∈ us, Thg K C CL h H2 u := fun u hu => (al u hu).but bP
    obtain ⟨d0, dz0, nc0⟩ : ∃ d0, Dz K (del H2 h) v0 d0 ∧ Nice d0 1 20 := by
      simp only [List.mem_cons, List.not_mem_nil, or_false] at mv
      rcases mv with rfl | rfl | rfl | rfl | rfl | rfl
      · exact ⟨_, .non, by decide +kernel, by decide +kernel, by decide +kernel⟩
      · exact ⟨_, .str _, by decide +kernel, by decide +kernel, by decide +kernel⟩
      · exact ⟨_, .str _, by decide +kernel, by decide +kernel, by decide +kernel⟩
      · exact ⟨_, .tup (off_at tPh (b2 _ _ tPh eP)) .nil, by decide +kernel, by decide +kernel, by decide +kernel⟩
      · exact ⟨_, .int _, by decide +kernel, by decide +kernel, by decide +kernel⟩
      · exact ⟨_, .bl _, by decide +kernel, by decide +kernel, by decide +kernel⟩
    clear mv bP b2 sP eP elP al eus
    refine ⟨_, rfl, (by show 3 ≤ sizeLine; decide), fun l nl => ?_⟩
    have lh : l ≠ h := h2.fresh nl
    have sl := same_upd nl (o := .lst [.int 1, .int 2, .int 28])
    refine ⟨h, n + 1 + 1, _, rfl, h2.same sl, by show n + 1 + 1 ≤ 1000000; omega, .inl ⟨l, _, rfl, upd_same, lh, by simp, by show 3 < 1000; decide, fun v1 H3 mv h3 b3 => ?_⟩⟩
    have bl3 := (Same.but sl h).trans b3
    obtain ⟨r, rfl, r1, r2⟩ : ∃ r : Nat, v1 = .int (r : Int) ∧ 1 ≤ r ∧ r ≤ 28 := by
      simp only [List.mem_cons, List.not_mem_nil, or_false] at mv
      rcases mv with e | e | e
      · exact ⟨1, e, by decide, by decide⟩
      · exact ⟨2, e, by decide, by decide⟩
      · exact ⟨28, e, by decide, by decide⟩
    refine ⟨_, rfl, by omega, by omega, for_range (lo := 0) (n := ((r : Int)).toNat) (fun j σ Hi => ∃ (v : V) (d : PyData) (c5 : Option V), σ = [some (.ref h), some (.ref t1), some (.ref tu1), some (.ref L), some v, c5] ∧ Dz K (del Hi h) v d ∧ Nice d (1 + j) (20 + 30 * j) ∧ (1 ≤ j → kindD d ≠ "str") ∧ Hand (n + 3 + j) Hi h ∧ But h H2 Hi) ?_ ?_ ?_⟩
    · exact ⟨v0, d0, none, rfl, dz0.same (off_but bl3), nc0.mono (by omega) (by omega), fun z => absurd z (by decide), h3.mono (by omega), bl3⟩
    · rintro j σ Hi hj ⟨v, d, c5, rfl, dz, nc, _, hdi, bi⟩
      have j28 : j < 28 := by omega
      refine ⟨_, rfl, (by show 1 ≤ sizeLine; decide), fun a1 n1 => ?_⟩
      refine ⟨_, rfl, (by show 1 ≤ sizeLine; decide), fun a2 n2 ne2 => ?_⟩
      intro a3 n3
      have s1 := same_upd n1 (o := .tup [v])
      have s2 := same_upd n2 (o := .lst [v])
      have hd2 := (hdi.same s1).same s2
      have a1h := hdi.fresh n1
      have a2h := (hdi.same s1).fresh n2
      have a3h := hd2.fresh n3
      refine ⟨_, rfl, upd_same, [(Sum.inr "a", v)], rfl, (by show 1 ≤ 15; decide), ?_⟩
      have s3 : L2.Same (upd (upd Hi a1 (.tup [v])) a2 (.lst [v])) (upd (upd (upd (upd Hi a1 (.tup [v])) a2 (.lst [v])) a3 (.dK [])) a3 (.dK (mergeK [] [(Sum.inr "a", v)]))) := by
        rw [upd_upd]
        exact same_upd n3
      have e3 : (upd (upd (upd (upd Hi a1 (.tup [v])) a2 (.lst [v])) a3 (.dK [])) a3 (.dK (mergeK [] [(Sum.inr "a", v)]))) a3 = some (.dK [(Sum.inr "a", v)]) := upd_same
      have e2 := s3 _ _ (upd_same (H := upd Hi a1 (.tup [v])) (a := a2) (o := .lst [v]))
      have e1 := s3 _ _ (s2 _ _ (upd_same (H := Hi) (a := a1) (o := .tup [v])))
      have hd3 := hd2.same s3
      have sx := (s1.trans s2).trans s3
      generalize upd (upd (upd (upd Hi a1 (.tup [v])) a2 (.lst [v])) a3 (.dK [])) a3 (.dK (mergeK [] [(Sum.inr "a", v)])) = Hx at e1 e2 e3 hd3 sx ⊢
      clear s3 s1 s2 hd2
      refine ⟨_, rfl, (by show 2 ≤ sizeLine; decide), fun a4 n4 => ⟨(by show 4 ≤ sizeLine; decide), fun l2 nl2 => ?_⟩⟩
      have s4 := same_upd n4 (o := .tup [v, .non])
      have s5 := same_upd nl2 (o := .lst [.ref a1, .ref a2, .ref a3, .ref a4])
      have hd5 := (hd3.same s4).same s5
      refine ⟨_, rfl, h, 4, _, rfl, by decide, by decide, hd5, by show n + 3 + (j : Int) ≤ 1000000; omega, fun a H5 a0 a1_ h5 b5 => ?_⟩
      have a4h := hd3.fresh n4
      have l2h := (hd3.same s4).fresh nl2
      have bt : But h Hi H5 := (Same.but ((sx.trans s4).trans s5) h).trans b5
      have dz5 : Dz K (del H5 h) v d := dz.same (off_but bt)
      have f1 : H5 a1 = some (.tup [v]) := b5 _ _ a1h (s5 _ _ (s4 _ _ e1))
      have f2 : H5 a2 = some (.lst [v]) := b5 _ _ a2h (s5 _ _ (s4 _ _ e2))
      have f3 : H5 a3 = some (.dK [(Sum.inr "a", v)]) := b5 _ _ a3h (s5 _ _ (s4 _ _ e3))
      have f4 : H5 a4 = some (.tup [v, .non]) := b5 _ _ a4h (s5 _ _ upd_same)
      have f5 : H5 l2 = some (.lst [.ref a1, .ref a2, .ref a3, .ref a4]) := b5 _ _ l2h upd_same
      have nx : ∀ (x : Addr) (d' : PyData), Dz K (del H5 h) (.ref x) d' → Nice d' (1 + (j + 1)) (20 + 30 * (j + 1)) → kindD d' ≠ "str" → ∃ (v : V) (d : PyData) (c5 : Option V), [some (.ref h), some (.ref t1), some (.ref tu1), some (.ref L), some (V.ref x), some (.int (0 + (j : Int)))] = [some (.ref h), some (.ref t1), some (.ref tu1), some (.ref L), some v, c5] ∧
          Dz K (del H5 h) v d ∧ Nice d (1 + (j + 1)) (20 + 30 * (j + 1)) ∧ (1 ≤ j + 1 → kindD d ≠ "str") ∧ Hand (n + 3 + ((j + 1 : Nat) : Int)) H5 h ∧ But h H2 H5 :=
        fun x d' q1 q2 q3 => ⟨_, d', _, rfl, q1, q2, fun _ => q3, h5.mono (by omega), bi.trans bt⟩
      have hl : (reprText ("a" : Str)).length ≤ 6 := by decide +kernel
      obtain ⟨m, rfl⟩ : ∃ m : Nat, a = (m : Int) := ⟨a.toNat, by omega⟩
      have hm : m < 4 := by omega
      match m, hm with
      | 0, _ => exact ⟨l2, _, _, _, rfl, rfl, SqL.of f5, atI_nat (j := 0) rfl, nx a1 (.tuple [d]) (.tup (off_at a1h f1) (.cons dz5 .nil)) ((nice_tup1 nc).mono (by omega) (by omega)) (by show "tuple" ≠ "str"; decide)⟩
      | 1, _ => exact ⟨l2, _, _, _, rfl, rfl, SqL.of f5, atI_nat (j := 1) rfl, nx a2 (.list [d]) (.lst (off_at a2h f2) ne2 (.cons dz5 .nil)) ((nice_lst1 nc).mono (by omega) (by omega)) (by show "list" ≠ "str"; decide)⟩
      | 2, _ => exact ⟨l2, _, _, _, rfl, rfl, SqL.of f5, atI_nat (j := 2) rfl, nx a3 (.dict [(.str "a", d)]) (.dct (off_at a3h f3) (.cons (k := Sum.inr "a") dz5 .nil)) ((nice_dct1 hl nc).mono (by omega) (by omega)) (by show "dict" ≠ "str"; decide)⟩
      | 3, _ => exact ⟨l2, _, _, _, rfl, rfl, SqL.of f5, atI_nat (j := 3) rfl, nx a4 (.tuple [d, .none]) (.tup (off_at a4h f4) (.cons dz5 (.cons .non .nil))) ((nice_tupN nc).mono (by omega) (by omega)) (by show "tuple" ≠ "str"; decide)⟩
    rintro σ H6 ⟨v, d, c5, rfl, dz, nc, nk, h6, b6⟩
    refine ⟨_, rfl, _, rfl, (by show 1 ≤ sizeLine; decide), fun m nm nem => ?_⟩
    have sm := same_upd nm (o := .lst [v])
    refine ⟨L, m, _, _, rfl, rfl, sm _ _ (b6 _ _ lA eL2), upd_same, (by rw [lus]; show 22 ≤ sizeLine; decide), fun z nz => ?_⟩
    have sz := same_upd nz (o := .lst (us ++ [v]))
    have s6 := sm.trans sz
    refine q z (us ++ [v]) _ upd_same ((h6.same sm).fresh nz) (by rw [List.length_append, lus]; show 21 + 1 ≤ 30; decide) (fun u hu => ?_) ((h6.same s6).mono (by omega)) ((bH2.trans b6).trans (Same.but s6 h))
    rcases List.mem_append.mp hu with hu | hu
    · exact ((al2 u hu).but b6).same s6
    · rcases List.mem_singleton.mp hu with rfl
      exact (Thg.dat dz (nc.mono (by omega) (by omega)) (nk (by omega))).same s6
end
end K69
set_option Elab.async false
set_option linter.all false
set_option maxRecDepth 100000
set_option maxHeartbeats 4000000
set_option pp.maxSteps 400
set_option pp.deepTerms false
/-! repr of a tuple that has own objects beside things. -/
namespace Xro
open PySem PySem.Spec PyProof.Rows L2 Az
section
variable {X : Cx} {pins : List (Addr × Obj)} {σ : L2.St} {H : Hp} {s : Shared}
theorem own_run {n : Nat} {f : Addr} {fd : FuncData} {ps : List Str} {sp : Sp} {A : Around} {vs : List V} {us : List Value} {Q : VK} {E : Value → Shared → Prop} (fr : A.frames = some X.stack) (room : Room n A) (F : FnOk X.prog X.w X.K X.mg X.base CX0 n f fd ps sp) (bd : Binds X.K fd ps [])
    (I : Inv X pins σ H s) (rv : Vals vs us) (hsp : sp vs H Q E0) : wpAny (model X.prog X.w) A (call (.ref f) us) (EP X pins σ Q) E s := by
  have en : Env0 X.prog X.w X.K X.mg X.base A X.stack s H := by
    have z := I.env0
    exact ⟨fr, z.mod, z.bs, z.bsz, z.funs, z.frf, z.hok, z.bare⟩
  have hl : vs.length = ps.length := F.len _ _ _ _ hsp
  have b1 := bd s us I.kIn (by simpa [← rv.length] using hl)
  rw [List.append_nil] at b1
  refine wpAny_call (codeAny_mono (F.run A X.stack s H ⟨us, []⟩ us vs _ E0 room en b1 rv hsp) fun r s2 hr => ?_)
  match r, hr with
  | .error z, hr => exact False.elim hr
  | .ok .next, hr => exact False.elim hr
  | .ok .brk, hr => exact False.elim hr
  | .ok .cont, hr => exact False.elim hr
  | .ok (.ret u), hr => exact I.after hr
/-- an own object that shows itself as y, and leaves all as it is -/
structure Shows (X : Cx) (k : Nat) (H : Hp) (a : Addr) (y : Str) : Prop where
  ex : ∃ (C dx : Addr) (fs : List (Str × V)) (n : Nat) (f : Addr) (fd : FuncData) (ps : List Str) (sp : Sp), H a = some (.ins C dx fs) ∧ PySem.W.findIn X.K (.ref C) "__repr__" = some (some (.ref f)) ∧ PySem.W.isFn X.K (.ref f) = true ∧
    n ≤ k ∧ FnOk X.prog X.w X.K X.mg X.base CX0 n f fd ps sp ∧ Binds X.K fd ps [] ∧ sp [.ref a] H (fun z H' => z = .str y ∧ H' = H) E0
/-- its text, asked below a tuple's showing -/
theorem own_under {k base : Nat} {A : Around} {a : Addr} {y : Str} {Q : Str → Shared → Prop} {E : Value → Shared → Prop} (fr : A.frames = some X.stack) (room : Room k A) (I : Inv X pins σ H s) (sh : Shows X k H a y) (hz : base ≤ sizeLine)
    (q : ∀ s', Inv X pins σ H s' → Q y s') : wpAny (model X.prog X.w) A (pyReprUnder base (.ref a)) Q E s := by
  obtain ⟨C, dx, fs, n, f, fd, ps, sp, ha, hs, hf, nk, F, bd, hsp⟩ := sh.ex
  obtain ⟨mA, J, _⟩ := ins_get I.hok ha
  obtain ⟨oA, J, _⟩ := J.look
  refine wpAny_pyReprUnder_ref hz ?_
  unfold pyReprObjUnder pyReprObjBy
  refine wpAny_bind (wpAny_cRoomFor (room.mono (Nat.zero_le _)).units0 ?_)
  refine wpAny_bind (wpAny_bind (J.type.here ((PySem.W.looks_findIn I.kIn hs).here ?_)))
  -- bound, called
  have call_ : wpAny (model X.prog X.w) A (callSpecialIfBoundBy? (fun g first => match reprUnder? g, first with
      | some twin, [self] => call twin [self, rawInt base]
      | _, _ => call g (first ++ [])) (.ref a) (Str.ofString "__repr__")) (fun r s' => ∃ t, r = some (.str y t) ∧ Inv X pins σ H s') E s := by
    simp only [callSpecialIfBoundBy?, bindSpecialIfBound?]
    refine wpAny_holding (wpAny_bind (wpAny_bind (wpAny_bind (J.type.here ((PySem.W.looks_findIn I.kIn hs).here ?_)))))
    refine wpAny_bind (wpAny_askSetting (wpAny_ite ?_))
    have fin : wpAny (model X.prog X.w) A (call (.ref f) ([.ref a] ++ []) >>= fun v => pure (some v)) (fun r s' => ∃ t, r = some (.str y t) ∧ Inv X pins σ H s') E s := by
      refine wpAny_bind (wpAny_mono (own_run (us := [.ref a]) (vs := [.ref a]) fr (room.mono nk) F bd I (.cons rfl .nil) hsp) (fun v s' hv => ?_) fun _ _ z => z)
      obtain ⟨v', H', I', rv, rfl, rfl⟩ := hv
      obtain ⟨tk, rfl⟩ := rv
      exact wpAny_pure ⟨tk, rfl, I'⟩
    split
    · exact wpAny_bind ((PySem.W.bind_fn I.kIn _ (beq_iff_eq.mp hf)).here (wpAny_pure (by exact fin)))
    · exact wpAny_tryCatch (wpAny_bind ((PySem.W.bind_fn I.kIn _ (beq_iff_eq.mp hf)).here (wpAny_pure (by exact fin))))
  refine wpAny_bind (wpAny_mono call_ (fun r s' hr => ?_) fun _ _ z => z)
  obtain ⟨t, rfl, I'⟩ := hr
  exact wpAny_bind (wpAny_isInstance (T := "str") (b := true) rfl isSubtype_str_str (wpAny_pure ⟨y, t, rfl, q s' I'⟩))
/-- what an item is shown as -/
inductive It (X : Cx) (k : Nat) (H : Hp) : V → Str → Prop
  | dat {v : V} {d : PyData} (h : Dz X.K H v d) (hs : d.showable = true) (hd : d.depth ≤ 50) (hz : d.shown.length ≤ sizeLine) : It X k H v d.shown
  | own {a : Addr} {y : Str} (h : Shows X k H a y) : It X k H (.ref a) y
inductive ItL (X : Cx) (k : Nat) (H : Hp) : List V → List Str → Prop
  | nil : ItL X k H [] []
  | cons {v : V} {vs : List V} {t : Str} {ts : List Str} (h : It X k H v t) (r : ItL X k H vs ts) : ItL X k H (v :: vs) (t :: ts)
theorem ItL.len {k : Nat} : ∀ {vs : List V} {ts : List Str}, ItL X k H vs ts → vs.length = ts.length
  | _, _, .nil => rfl
  | _, _, .cons _ r => congrArg Nat.succ r.len
theorem not_read {h : Heap} {a : Addr} {o : Obj} {C : Addr} {d : PyData} {as : List Addr} (e : h.get? a = some o) (c : o.cls = .ref C) : ¬ Reads h (.ref a) d as := fun r => by
  cases r with
  | list e2 c2 _ _ => rw [e] at e2; cases e2; rw [c] at c2; cases c2
  | tuple e2 c2 _ _ => rw [e] at e2; cases e2; rw [c] at c2; cases c2
  | dict e2 c2 _ _ _ => rw [e] at e2; cases e2; rw [c] at c2; cases c2
theorem reads_mem {h : Heap} : ∀ {vs : List Value} {ds : List PyData} {as : List Addr} {v : Value}, ReadsAll h vs ds as → v ∈ vs → ∃ d as', Reads h v d as'
  | _, _, _, _, .cons r1 r2, m => by
    rcases List.mem_cons.mp m with z | z
    · rw [z]; exact ⟨_, _, r1⟩
    · exact reads_mem r2 z
/-- a tuple with an own object is no thing -/
theorem tup_not {t a C dx : Addr} {fs : List (Str × V)} {vs : List V} {d : PyData} {as : List Addr} (I : Inv X pins σ H s) (et : H t = some (.tup vs)) (m : V.ref a ∈ vs) (ha : H a = some (.ins C dx fs)) : ¬ Reads s.heap (.ref t) d as := fun r => by
  obtain ⟨_, its, rv, o, e1, e2, n, e3⟩ := (show ObjOk X.prog X.w H s.heap t (.tup vs) from I.hok t _ et)
  obtain ⟨mA, J, _⟩ := ins_get I.hok ha
  obtain ⟨oA, J, _⟩ := J.look
  obtain ⟨i, hi⟩ := List.getElem?_of_mem m
  obtain ⟨u, hu, ru⟩ := rv.get hi
  cases (show u = Value.ref a from ru)
  have mu := List.mem_of_getElem? hu
  cases r with
  | list f1 f2 f3 f4 => rw [e1] at f1; cases f1; rw [e2] at f2; exact absurd f2 (by decide)
  | dict f1 f2 f3 f4 f5 => rw [e1] at f1; cases f1; rw [e2] at f2; exact absurd f2 (by decide)
  | tuple f1 f2 f3 f4 =>
    rw [e1] at f1
    cases f1
    rw [e3] at f3
    cases f3
    obtain ⟨d2, as2, r2⟩ := reads_mem f4 (by simpa using mu)
    exact not_read J.at_ J.cls r2
theorem under_depth {A : Around} {args : Args} : (A.under (.builtin "tuple.__repr__" args)).depth ≤ A.depth + 1 := by
  first | exact Nat.le_refl _ | exact Nat.le_succ _ | simp [Around.under, Code.weight, Code.isCreation, Code.isGuard, Code.isCaller, Code.frames, Code.isFrame, guardIds]
theorem under_room {k : Nat} {A : Around} {args : Args} (r : Room (k + 1) A) : Room k (A.under (.builtin "tuple.__repr__" args)) :=
  ⟨r.hd, by have := r.dp; have := under_depth (A := A) (args := args); omega, by rw [units_under_tuple_repr]; have := r.un; omega⟩
theorem under_frames {A : Around} {args : Args} : (A.under (.builtin "tuple.__repr__" args)).frames = A.frames := by
  first | rfl | simp [Around.under, Code.frames, Code.isFrame]
/-- the items' texts, one behind another -/
theorem items {k : Nat} {A : Around} {t a C dx : Addr} {fs : List (Str × V)} {ws : List V} {E : Value → Shared → Prop} (fr : A.frames = some X.stack) (room : Room k A) (hg : A.guards = some [.builtin "tuple.__repr__" ⟨[.ref t], []⟩])
    (et : H t = some (.tup ws)) (m : V.ref a ∈ ws) (ha : H a = some (.ins C dx fs)) : ∀ (vs : List V) (us : List Value) (ts : List Str) (acc : Array Str) (n : Nat) (s : Shared) (Q : (Array Str × Nat) → Shared → Prop),
    ItL X k H vs ts → Vals vs us → Inv X pins σ H s → n + piled ts ≤ sizeLine → (∀ s', Inv X pins σ H s' → Q ⟨acc ++ ts.toArray, n + piled ts⟩ s') →
    wpAny (model X.prog X.w) A (forIn us (⟨acc, n⟩ : (Array Str × Nat)) tupBody) Q E s := by
  intro vs
  induction vs with
  | nil =>
    intro us ts acc n s Q hT rv I _ q
    cases hT
    cases rv
    have q0 := q s I
    simp only [List.forIn_nil]
    exact wpAny_pure (by simpa [piled] using q0)
  | cons v vs ih =>
    intro us ts acc n s Q hT rv I hn q
    cases hT with
    | @cons _ _ y ts' hx hl =>
      cases rv with
      | @cons _ u _ us' ru rr =>
        rw [piled_cons] at hn
        rw [List.forIn_cons]
        have rest : ∀ s', Inv X pins σ H s' → wpAny (model X.prog X.w) A (forIn us' (⟨acc.push y, n + (y.length + 2)⟩ : (Array Str × Nat)) tupBody) Q E s' := fun s' I' => by
          refine ih us' ts' (acc.push y) (n + (y.length + 2)) s' Q hl rr I' (by omega) fun s2 I2 => ?_
          have h1 := q s2 I2
          have e : n + piled (y :: ts') = n + (y.length + 2) + piled ts' := by rw [piled_cons]; omega
          rw [e] at h1
          simpa using h1
        cases hx with
        | own sh =>
          cases (show u = Value.ref _ from ru)
          exact wpAny_bind (wpAny_bind (own_under fr room I sh (by omega) fun s' I' => wpAny_pure (rest s' I')))
        | @dat _ d h hs hd hz =>
          obtain ⟨as, rd, na⟩ := Dz.reads I _ _ u h ru
          obtain ⟨bs, rb, rk⟩ := ReprK.of_reads (prog := X.prog) (w := X.w) rd hs (fun _ => na) hz
          have cl : ∀ b ∈ bs, Clear [.builtin "tuple.__repr__" ⟨[.ref t], []⟩] b := fun b hb => (Clear.nil b).cons fun e => by
            obtain ⟨d2, as2, r2, _⟩ := rb b hb
            rw [← e] at r2
            exact tup_not I et m ha r2
          refine wpAny_bind (wpAny_bind (rk (n + 1) (by omega) A _ _ s _ hg cl (by have := room.un; omega) (fun _ _ e => e) fun h' tk kept => wpAny_pure ?_))
          exact rest _ (I.kept kept)
/-- repr of a tuple that has an own object -/
def rReprT (X : Cx) (k : Nat) : List V → Hp → VK → Prop := fun xs H Q => ∃ (t a C dx : Addr) (fs : List (Str × V)) (vs : List V) (ts : List Str), xs = [.ref t] ∧ H t = some (.tup vs) ∧ V.ref a ∈ vs ∧ H a = some (.ins C dx fs) ∧ ItL X k H vs ts ∧
  (tupleText ts).length ≤ sizeLine ∧ Q (.str (tupleText ts)) H
theorem cr_reprT {k : Nat} (quiet : X.A.guards = some []) (room : Room (k + 2) X.A) : CallR X (.builtin "repr") (rReprT X k) := by
  intro pins s σ H xs us Q I r h
  obtain ⟨t, a, C, dx, fs, vs, ts, rfl, et, m, ha, hT, hz, q⟩ := h
  obtain ⟨u, rfl, rx⟩ := vals1 r
  cases rx
  obtain ⟨_, its, rv, o, e1, e2, n, e3⟩ := (show ObjOk X.prog X.w H s.heap t (.tup vs) from I.hok t _ et)
  have hTy : s.TypeIs (.ref t) "tuple" := ⟨o, e1, e2⟩
  have hu := room.un
  refine call_repr_slot (by omega) hTy F.slot_tuple_repr ?_
  refine wpAny_call (codeAny_call_builtin_own (Code.quiet_builtin _ (by decide +kernel)) F.entry_tuple_repr (F.slot_tuple_repr.check _ _ _ _ _ _ _ _ hTy (F.args_tuple_repr_1 _) ?_))
  have hg1 : X.A.in1.guards = some [] := quiet
  have hp := piled_le_tupleText ts
  have hl : ts.length = its.length := by rw [← hT.len]; exact rv.length
  show wpOwn (model X.prog X.w) X.A.in1 (.builtin "tuple.__repr__" ⟨[.ref t], []⟩) (Builtin.tupleReprAt 0 ⟨[.ref t], []⟩) _ _ s
  rw [tuple_repr_tree, tupleReprUnderWay_eq]
  refine wpOwn_bind (wpOwn_stackTailAny hg1 (tupGuardF_off _) (tupGuardF_pos _) ?_)
  refine wpOwn_of_wpAny ?_
  show wpAny _ _ (tupleReprRest 0 (.ref t)) _ _ s
  unfold tupleReprRest Builtin.Tuple.tupleItemsOf
  refine wpAny_bind (wpAny_bind (wpAny_seqItems e1 e3 (wpAny_pure ?_)))
  rw [← Array.forIn_toList]
  refine wpAny_bind (items (k := k) (pins := pins) (σ := σ) (H := H) (t := t) (a := a) (ws := vs) ?_ (under_room room.in1) (guards_under_guard (isGuard_tuple_repr _) hg1) et m ha vs _ ts #[] 0 s _ hT (by simpa using rv) I (by omega) fun s' I' => ?_)
  · rw [under_frames]
    exact I.ok.frames
  refine wpAny_bind (wpAny_mkStr (wpAny_pure ?_) (by simpa [tupleText, hl] using hz))
  have tx : (Str.ofString "(" ++ (Str.ofString ", ").join ((#[] : Array Str) ++ ts.toArray, 0 + piled ts).fst.toList ++ Str.ofString (if (its.toArray.size == 1) = true then ",)" else ")")) = tupleText ts := by
    simp [tupleText, hl]
  rw [tx]
  exact ⟨tupleText ts, _, rfl, .str (tupleText ts), H, I'.tok _, ⟨_, rfl⟩, q⟩
end
end Xro
set_option Elab.async false
set_option linter.all false
set_option maxRecDepth 100000
set_option maxHeartbeats 4000000
set_option pp.maxSteps 400
set_option pp.deepTerms false
/-! repr of tuples that have own objects, at any depth. -/
namespace Xrn
open PySem PySem.Spec PyProof.Rows L2 Az Xro
section
variable {X : Cx} {pins : List (Addr × Obj)} {σ : L2.St} {H : Hp} {s : Shared}
/-- where no thing stands: an own object, or a tuple with one in it -/
inductive ND (H : Hp) : Addr → Prop
  | ins {a C dx : Addr} {fs : List (Str × V)} (h : H a = some (.ins C dx fs)) : ND H a
  | tup {t a : Addr} {vs : List V} (h : H t = some (.tup vs)) (m : V.ref a ∈ vs) (n : ND H a) : ND H t
theorem ND.no (I : Inv X pins σ H s) {t : Addr} (n : ND H t) : ∀ d as, ¬ Reads s.heap (.ref t) d as := by
  induction n with
  | ins ha =>
    intro d as
    obtain ⟨mA, J, _⟩ := ins_get I.hok ha
    obtain ⟨oA, J, _⟩ := J.look
    exact not_read J.at_ J.cls
  | @tup t a vs et m n ih =>
    intro d as r
    obtain ⟨_, its, rv, o, e1, e2, n, e3⟩ := (show ObjOk X.prog X.w H s.heap t (.tup vs) from I.hok t _ et)
    obtain ⟨i, hi⟩ := List.getElem?_of_mem m
    obtain ⟨u, hu, ru⟩ := rv.get hi
    cases (show u = Value.ref a from ru)
    have mu := List.mem_of_getElem? hu
    cases r with
    | list f1 f2 f3 f4 => rw [e1] at f1; cases f1; rw [e2] at f2; exact absurd f2 (by decide)
    | dict f1 f2 f3 f4 f5 => rw [e1] at f1; cases f1; rw [e2] at f2; exact absurd f2 (by decide)
    | tuple f1 f2 f3 f4 =>
      rw [e1] at f1
      cases f1
      rw [e3] at f3
      cases f3
      obtain ⟨d2, as2, r2⟩ := reads_mem f4 (by simpa using mu)
      exact ih _ _ r2
/-- the guards stand at such addresses, and at none of these -/
def Gs (H : Hp) (av : List Addr) (g : List Code) : Prop := ∀ id v rest kw, Code.builtin id ⟨v :: rest, kw⟩ ∈ g → ∃ t, v = .ref t ∧ ND H t ∧ t ∉ av
theorem Gs.sub {av av' : List Addr} {g : List Code} (h : Gs H av g) (s : ∀ a ∈ av', a ∈ av) : Gs H av' g := fun id v rest kw m => by
  obtain ⟨t, e, n, na⟩ := h id v rest kw m
  exact ⟨t, e, n, fun z => na (s _ z)⟩
/-- an item that is shown as y, below what stands at other addresses than these -/
def Shw (X : Cx) (k : Nat) (H : Hp) (av : List Addr) (x : V) (y : Str) : Prop := ∀ (pins : List (Addr × Obj)) (σ : L2.St) (s : Shared) (A : Around) (g : List Code) (u : Value) (base : Nat) (Q : Str → Shared → Prop) (E : Value → Shared → Prop),
  A.frames = some X.stack → Room k A → A.guards = some g → Gs H av g → Inv X pins σ H s → RelV x u → base + y.length ≤ sizeLine → (∀ s', Inv X pins σ H s' → Q y s') → wpAny (model X.prog X.w) A (pyReprUnder base u) Q E s
theorem Shw.mono {k k' : Nat} {av av' : List Addr} {x : V} {y : Str} (h : Shw X k H av x y) (hk : k ≤ k') (s : ∀ a ∈ av, a ∈ av') : Shw X k' H av' x y :=
  fun pins σ st A g u base Q E fr room hg G I ru hb q => h pins σ st A g u base Q E fr (room.mono hk) hg (G.sub s) I ru hb q
theorem shw_dat {k : Nat} {v : V} {d : PyData} (h : Dz X.K H v d) (hs : d.showable = true) (hd : d.depth ≤ 50) (hz : d.shown.length ≤ sizeLine) : Shw X k H [] v d.shown := by
  intro pins σ s A g u base Q E fr room hg G I ru hb q
  obtain ⟨as, rd, na⟩ := Dz.reads I _ _ u h ru
  obtain ⟨bs, rb, rk⟩ := ReprK.of_reads (prog := X.prog) (w := X.w) rd hs (fun _ => na) hz
  refine rk base hb A g _ s _ hg (fun b hm id v rest kw m e => ?_) (by have := room.un; omega) (fun _ _ e => e) fun h' tk kept => q _ (I.kept kept)
  obtain ⟨t, e2, n, _⟩ := G id v rest kw m
  rw [e2] at e
  cases e
  obtain ⟨d2, as2, r2, _⟩ := rb _ hm
  exact n.no I _ _ r2
theorem shw_own {k : Nat} {a : Addr} {y : Str} (h : Shows X k H a y) : Shw X k H [] (.ref a) y := by
  intro pins σ s A g u base Q E fr room hg G I ru hb q
  cases (show u = Value.ref a from ru)
  exact own_under fr room I h (by omega) q
inductive ShL (X : Cx) (k : Nat) (H : Hp) (av : List Addr) : List V → List Str → Prop
  | nil : ShL X k H av [] []
  | cons {v : V} {vs : List V} {t : Str} {ts : List Str} (h : Shw X k H av v t) (r : ShL X k H av vs ts) : ShL X k H av (v :: vs) (t :: ts)
theorem ShL.len {k : Nat} {av : List Addr} : ∀ {vs : List V} {ts : List Str}, ShL X k H av vs ts → vs.length = ts.length
  | _, _, .nil => rfl
  | _, _, .cons _ r => congrArg Nat.succ r.len
theorem shl_of {k : Nat} : ∀ {vs : List V} {ts : List Str}, ItL X k H vs ts → ShL X k H [] vs ts
  | _, _, .nil => .nil
  | _, _, .cons (.dat h hs hd hz) r => .cons (shw_dat h hs hd hz) (shl_of r)
  | _, _, .cons (.own h) r => .cons (shw_own h) (shl_of r)
theorem items {k : Nat} {A : Around} {g : List Code} {av : List Addr} {E : Value → Shared → Prop} (fr : A.frames = some X.stack) (room : Room k A) (hg : A.guards = some g) (G : Gs H av g) : ∀ (vs : List V) (us : List Value) (ts : List Str) (acc : Array Str) (n : Nat) (s : Shared) (Q : (Array Str × Nat) → Shared → Prop),
    ShL X k H av vs ts → Vals vs us → Inv X pins σ H s → n + piled ts ≤ sizeLine → (∀ s', Inv X pins σ H s' → Q ⟨acc ++ ts.toArray, n + piled ts⟩ s') →
    wpAny (model X.prog X.w) A (forIn us (⟨acc, n⟩ : (Array Str × Nat)) tupBody) Q E s := by
  intro vs
  induction vs with
  | nil =>
    intro us ts acc n s Q hT rv I _ q
    cases hT
    cases rv
    have q0 := q s I
    simp only [List.forIn_nil]
    exact wpAny_pure (by simpa [piled] using q0)
  | cons v vs ih =>
    intro us ts acc n s Q hT rv I hn q
    cases hT with
    | @cons _ _ y ts' hx hl =>
      cases rv with
      | @cons _ u _ us' ru rr =>
        rw [piled_cons] at hn
        rw [List.forIn_cons]
        have rest : ∀ s', Inv X pins σ H s' → wpAny (model X.prog X.w) A (forIn us' (⟨acc.push y, n + (y.length + 2)⟩ : (Array Str × Nat)) tupBody) Q E s' := fun s' I' => by
          refine ih us' ts' (acc.push y) (n + (y.length + 2)) s' Q hl rr I' (by omega) fun s2 I2 => ?_
          have h1 := q s2 I2
          have e : n + piled (y :: ts') = n + (y.length + 2) + piled ts' := by rw [piled_cons]; omega
          rw [e] at h1
          simpa using h1
        exact wpAny_bind (wpAny_bind (hx pins σ s A g u (n + 1) _ _ fr room hg G I ru (by omega) fun s' I' => wpAny_pure (rest s' I')))
theorem tup_own {k : Nat} {A : Around} {g : List Code} {av : List Addr} {t : Addr} {vs : List V} {ts : List Str} {R : Result → Shared → Prop} {base : Nat} {id : String} {rest : List Value} (fr : (A.under (.builtin id ⟨.ref t :: rest, []⟩)).frames = some X.stack) (room : Room k (A.under (.builtin id ⟨.ref t :: rest, []⟩)))
    (hcg : (Code.builtin id ⟨.ref t :: rest, []⟩).isGuard = true) (hg : A.guards = some g) (G : Gs H (t :: av) g) (I : Inv X pins σ H s) (et : H t = some (.tup vs)) (nd : ND H t) (tn : t ∉ av) (hT : ShL X k H av vs ts)
    (hsz : base + (tupleText ts).length ≤ sizeLine) (q : ∀ s' u, Inv X pins σ H s' → R (.ok (.ret (.str (tupleText ts) u))) s') :
    wpOwn (model X.prog X.w) A (.builtin id ⟨.ref t :: rest, []⟩) (Builtin.tupleReprAt base ⟨[.ref t], []⟩) (fun fin s' => match fin with | .done f => R (.ok f) s' | .again c' => c'.quiet = true ∧ codeAny (model X.prog X.w) A c' R s') (fun e s' => R (.error e) s') s := by
  obtain ⟨_, its, rv, o, e1, e2, n, e3⟩ := (show ObjOk X.prog X.w H s.heap t (.tup vs) from I.hok t _ et)
  have hp := piled_le_tupleText ts
  have hl : ts.length = its.length := by rw [← hT.len]; exact rv.length
  have hca : Clear g t := fun id v rest kw m e => by
    obtain ⟨t', e', _, na⟩ := G id v rest kw m
    rw [e'] at e
    cases e
    exact na List.mem_cons_self
  rw [tuple_repr_tree, tupleReprUnderWay_eq]
  refine wpOwn_bind (wpOwn_stackTailAny hg (tupGuardF_off _) (tupGuardF_pos _) ?_)
  have hn : (g.any fun c => tupGuardF (.ref t) (c, default)) = false := by
    rw [List.any_eq_false]
    intro c hcm
    rw [tupGuardF_of_clear hca c hcm]
    exact Bool.false_ne_true
  rw [hn]
  refine wpOwn_of_wpAny ?_
  show wpAny _ _ (tupleReprRest base (.ref t)) _ _ s
  unfold tupleReprRest Builtin.Tuple.tupleItemsOf
  refine wpAny_bind (wpAny_bind (wpAny_seqItems e1 e3 (wpAny_pure ?_)))
  rw [← Array.forIn_toList]
  have G2 : Gs H av (.builtin id ⟨.ref t :: rest, []⟩ :: g) := fun id' v rest' kw m => by
    rcases List.mem_cons.mp m with z | z
    · cases z
      exact ⟨t, rfl, nd, tn⟩
    · obtain ⟨t', e, n', na⟩ := G id' v rest' kw z
      exact ⟨t', e, n', fun y => na (List.mem_cons_of_mem _ y)⟩
  refine wpAny_bind (items (k := k) (pins := pins) (σ := σ) (H := H) fr room (guards_under_guard hcg hg) G2 vs _ ts #[] base s _ hT (by simpa using rv) I (by omega) fun s' I' => ?_)
  have lz : (tupleText ts).length ≤ sizeLine := by omega
  refine wpAny_bind (wpAny_mkStr (wpAny_pure ?_) (by simpa [tupleText, hl] using lz))
  have tx : (Str.ofString "(" ++ (Str.ofString ", ").join ((#[] : Array Str) ++ ts.toArray, base + piled ts).fst.toList ++ Str.ofString (if (its.toArray.size == 1) = true then ",)" else ")")) = tupleText ts := by
    simp [tupleText, hl]
  rw [tx]
  exact q _ _ (I'.tok _)
theorem under_depth2 {A : Around} {args : Args} : (A.under (.builtin "tuple.__repr__.under" args)).depth ≤ A.depth + 1 := by
  first | exact Nat.le_refl _ | exact Nat.le_succ _ | simp [Around.under, Code.weight, Code.isCreation, Code.isGuard, Code.isCaller, Code.frames, Code.isFrame, guardIds]
theorem under_room2 {k : Nat} {A : Around} {args : Args} (r : Room (k + 1) A) : Room k (A.under (.builtin "tuple.__repr__.under" args)) :=
  ⟨r.hd, by have := r.dp; have := under_depth2 (A := A) (args := args); omega, by rw [units_under_tuple_repr_under]; have := r.un; omega⟩
theorem under_frames2 {A : Around} {args : Args} : (A.under (.builtin "tuple.__repr__.under" args)).frames = A.frames := by
  first | rfl | simp [Around.under, Code.frames, Code.isFrame]
/-- a tuple that is an item -/
theorem shw_tup {k : Nat} {av : List Addr} {t : Addr} {vs : List V} {ts : List Str} (et : H t = some (.tup vs)) (nd : ND H t) (tn : t ∉ av) (hT : ShL X k H av vs ts) : Shw X (k + 1) H (t :: av) (.ref t) (tupleText ts) := by
  intro pins σ s A g u base Q E fr room hg G I ru hb q
  cases (show u = Value.ref t from ru)
  obtain ⟨_, its, rv, o, e1, e2, n, e3⟩ := (show ObjOk X.prog X.w H s.heap t (.tup vs) from I.hok t _ et)
  have hTy : s.TypeIs (.ref t) "tuple" := ⟨o, e1, e2⟩
  refine wpAny_pyReprUnder_ref (by omega) ?_
  refine wpAny_pyReprObjUnder_twin (twin := "tuple.__repr__.under") hTy F.slot_tuple_repr rfl (by have := room.un; omega) ?_
  refine call_twin_own (F.quiet_tuple_repr_under _) F.entry_tuple_repr_under F.check_tuple_repr_under hTy F.slot_tuple_repr (F.args_tuple_repr_1 _) ?_
  refine tup_own (k := k) (R := callEnd _ _) (by rw [under_frames2]; exact fr) (under_room2 room) (isGuard_tuple_repr_under _) hg G I et nd tn hT hb fun s' u I' => ?_
  exact ⟨⟨_, _, rfl⟩, _, _, rfl, q s' I'⟩
/-- repr of a tuple that has own objects, at any depth -/
def rReprN (X : Cx) (k : Nat) : List V → Hp → VK → Prop := fun xs H Q => ∃ (t : Addr) (av : List Addr) (vs : List V) (ts : List Str), xs = [.ref t] ∧ H t = some (.tup vs) ∧ ND H t ∧ t ∉ av ∧ ShL X k H av vs ts ∧
  (tupleText ts).length ≤ sizeLine ∧ Q (.str (tupleText ts)) H
theorem cr_reprN {k : Nat} (quiet : X.A.guards = some []) (room : Room (k + 2) X.A) : CallR X (.builtin "repr") (rReprN X k) := by
  intro pins s σ H xs us Q I r h
  obtain ⟨t, av, vs, ts, rfl, et, nd, tn, hT, hz, q⟩ := h
  obtain ⟨u, rfl, rx⟩ := vals1 r
  cases rx
  obtain ⟨_, its, rv, o, e1, e2, n, e3⟩ := (show ObjOk X.prog X.w H s.heap t (.tup vs) from I.hok t _ et)
  have hTy : s.TypeIs (.ref t) "tuple" := ⟨o, e1, e2⟩
  have hu := room.un
  refine call_repr_slot (by omega) hTy F.slot_tuple_repr ?_
  refine wpAny_call (codeAny_call_builtin_own (Code.quiet_builtin _ (by decide +kernel)) F.entry_tuple_repr (F.slot_tuple_repr.check _ _ _ _ _ _ _ _ hTy (F.args_tuple_repr_1 _) ?_))
  have hg1 : X.A.in1.guards = some [] := quiet
  refine tup_own (k := k) (A := X.A.in1) (base := 0) (R := callEnd _ _) ?_ (under_room room.in1) (isGuard_tuple_repr _) hg1 (fun id v rest kw m => by cases m) I et nd tn hT (by omega) fun s' u I' => ?_
  · rw [under_frames]
    exact I.ok.frames
  · exact ⟨tupleText ts, _, rfl, .str (tupleText ts), H, I', ⟨_, rfl⟩, q⟩
end
end Xrn
set_option Elab.async false
set_option linter.all false
set_option maxRecDepth 100000
set_option maxHeartbeats 4000000
set_option pp.maxSteps 400
set_option pp.deepTerms false
namespace K69
open PySem PySem.Spec PyProof.Rows L2
open Xk Az Xtx Xst
section
variable {P : Program} {w : World} {K : PySem.W.Frag} {mg : Str → Option Value} {base : Heap} {C CL : Addr}
/-- the word of each way -/
def wdW : Nat → Str
  | 0 => "day"
  | 1 => "length"
  | 2 => "name"
  | 3 => "entry"
  | 4 => "disc"
  | 5 => "work"
  | _ => "entry"
def spRead (K : PySem.W.Frag) (e : Ex) : Sp := fun vs H Q E => ∃ (i : Nat) (v : V), vs = [.int (i : Int), v] ∧ i < 7 ∧ Thn K H v ∧ (i = 6 → v ≠ .str "") ∧ ∀ H', L2.Same H H' → Rz e H' (.int 0) (.str (wdW i)) E
def spAsked (K : PySem.W.Frag) : Sp := fun vs H Q _ => ∃ (i : Nat) (v : V), vs = [.int (i : Int), v] ∧ i < 7 ∧ Thn K H v ∧ (i = 6 → v ≠ .str "") ∧ ∀ t H', L2.Same H H' → H' t = some (.tup [.int 0, .str (wdW i)]) → Q (.ref t) H'
theorem ok_read {f : Addr} {fd : FuncData} {e : Ex} {f0 f1 f2 f3 f4 f5 f6 : Addr} {fd0 fd1 fd2 fd3 fd4 fd5 fd6 : FuncData} (D : Df K mg "_law_read" ["_law_way", "_law_thing"] sRead f fd) (T : Txt K mg C CL e) (D0 : Df K mg "read_day" ["text"] sReadDay f0 fd0) (F0 : FnOk P w K mg base (L2.CX P w) 11 f0 fd0 ["text"] (spRdN K "day" e)) (D1 : Df K mg "read_length" ["text"] sReadLength f1 fd1) (F1 : FnOk P w K mg base (L2.CX P w) 11 f1 fd1 ["text"] (spRdN K "length" e)) (D2 : Df K mg "read_name" ["text"] sReadName f2 fd2) (F2 : FnOk P w K mg base (L2.CX P w) 11 f2 fd2 ["text"] (spRdN K "name" e)) (D3 : Df K mg "read_entry" ["text"] sReadEntry f3 fd3) (F3 : FnOk P w K mg base (L2.CX P w) 11 f3 fd3 ["text"] (spRdN K "entry" e)) (D4 : Df K mg "read_disc" ["text"] sReadDisc f4 fd4) (F4 : FnOk P w K mg base (L2.CX P w) 11 f4 fd4 ["text"] (spRdN K "disc" e)) (D5 : Df K mg "read_work" ["text"] sReadWork f5 fd5) (F5 : FnOk P w K mg base (L2.CX P w) 11 f5 fd5 ["text"] (spRdN K "work" e)) (D6 : Df K mg "read_listing" ["text"] sReadListing f6 fd6) (F6 : FnOk P w K mg base (L2.CX P w) 11 f6 fd6 ["text"] (spRdL K e)) : FnOk P w K mg base (L2.CX P w) 12 f fd ["_law_way", "_law_thing"] (spRead K e) := by
  refine D.fn.okX scRead (fun vs H Q E h => ?_) (fun cdv A outer s H vs Q E hr h => ?_)
  · obtain ⟨i, v, rfl, hi, th, hne, q⟩ := h
    rfl
  · obtain ⟨i, v, rfl, hi, th, hne, q⟩ := h
    refine ⟨_, (pss_cons (ps_if (pt_cmpR op_lt (pv 0) pe_int (nomark _)) (pss_cons (ps_if (pt_cmpR op_eq (pv 0) pe_int (nomark _)) (pss_one (ps_ret (pe_call F0 (hr.mono (by decide)) (by rfl) D0.mgf D0.fn.kp D0.bd .nil (passes_call (takes_of rfl rfl rfl rfl) (fun _ _ _ _ h => h)) (pa_cons (pv 1) pa_nil)))) pss_nil)
      (pss_one (ps_ret (pe_ifExp (pt_cmpR op_eq (pv 0) pe_int (nomark _)) (pe_call F1 (hr.mono (by decide)) (by rfl) D1.mgf D1.fn.kp D1.bd .nil (passes_call (takes_of rfl rfl rfl rfl) (fun _ _ _ _ h => h)) (pa_cons (pv 1) pa_nil)) (pe_call F2 (hr.mono (by decide)) (by rfl) D2.mgf D2.fn.kp D2.bd .nil (passes_call (takes_of rfl rfl rfl rfl) (fun _ _ _ _ h => h)) (pa_cons (pv 1) pa_nil)))))) pss_nil)
      (pss_cons (ps_if (pt_cmpR op_lt (pv 0) pe_int (nomark _)) (pss_one (ps_ret (pe_ifExp (pt_cmpR op_eq (pv 0) pe_int (nomark _)) (pe_call F3 (hr.mono (by decide)) (by rfl) D3.mgf D3.fn.kp D3.bd .nil (passes_call (takes_of rfl rfl rfl rfl) (fun _ _ _ _ h => h)) (pa_cons (pv 1) pa_nil)) (pe_call F4 (hr.mono (by decide)) (by rfl) D4.mgf D4.fn.kp D4.bd .nil (passes_call (takes_of rfl rfl rfl rfl) (fun _ _ _ _ h => h)) (pa_cons (pv 1) pa_nil))))) pss_nil)
      (pss_one (ps_ret (pe_ifExp (pt_cmpR op_eq (pv 0) pe_int (nomark _)) (pe_call F5 (hr.mono (by decide)) (by rfl) D5.mgf D5.fn.kp D5.bd .nil (passes_call (takes_of rfl rfl rfl rfl) (fun _ _ _ _ h => h)) (pa_cons (pv 1) pa_nil)) (pe_call F6 (hr.mono (by decide)) (by rfl) D6.mgf D6.fn.kp D6.bd .nil (passes_call (takes_of rfl rfl rfl rfl) (fun _ _ _ _ h => h)) (pa_cons (pv 1) pa_nil))))))), ?_⟩
    match i, hi, hne, q with
    | 0, _, _, q => exact ⟨_, rfl, 0, 3, rfl, rfl, _, rfl, iteT ⟨_, rfl, rfl, _, rfl, iteT ⟨_, rfl, v, rfl, th, q⟩⟩⟩
    | 1, _, _, q => exact ⟨_, rfl, 1, 3, rfl, rfl, _, rfl, iteT ⟨_, rfl, rfl, _, rfl, iteF ⟨_, rfl, rfl, _, rfl, iteT ⟨_, rfl, v, rfl, th, q⟩⟩⟩⟩
    | 2, _, _, q => exact ⟨_, rfl, 2, 3, rfl, rfl, _, rfl, iteT ⟨_, rfl, rfl, _, rfl, iteF ⟨_, rfl, rfl, _, rfl, iteF ⟨_, rfl, v, rfl, th, q⟩⟩⟩⟩
    | 3, _, _, q => exact ⟨_, rfl, 3, 3, rfl, rfl, _, rfl, iteF ⟨_, rfl, 3, 5, rfl, rfl, _, rfl, iteT ⟨_, rfl, rfl, _, rfl, iteT ⟨_, rfl, v, rfl, th, q⟩⟩⟩⟩
    | 4, _, _, q => exact ⟨_, rfl, 4, 3, rfl, rfl, _, rfl, iteF ⟨_, rfl, 4, 5, rfl, rfl, _, rfl, iteT ⟨_, rfl, rfl, _, rfl, iteF ⟨_, rfl, v, rfl, th, q⟩⟩⟩⟩
    | 5, _, _, q => exact ⟨_, rfl, 5, 3, rfl, rfl, _, rfl, iteF ⟨_, rfl, 5, 5, rfl, rfl, _, rfl, iteF ⟨_, rfl, rfl, _, rfl, iteT ⟨_, rfl, v, rfl, th, q⟩⟩⟩⟩
    | 6, _, hne, q => exact ⟨_, rfl, 6, 3, rfl, rfl, _, rfl, iteF ⟨_, rfl, 6, 5, rfl, rfl, _, rfl, iteF ⟨_, rfl, rfl, _, rfl, iteF ⟨_, rfl, v, rfl, th, hne rfl, q⟩⟩⟩⟩
def spAlone (e : Ex) : Sp := fun vs H Q _ => ∃ (a : Addr) (fs : List (Str × V)), vs = [.ref a] ∧ Kept H a e.NoText fs ∧ ∀ H', L2.Same H H' → Q (.bl true) H'
theorem ok_alone {f : Addr} {fd : FuncData} {e : Ex} (D : Df K mg "_law_alone" ["_law_e"] sAlone f fd) (T : Txt K mg C CL e) : FnOk P w K mg base CX0 1 f fd ["_law_e"] (spAlone e) := by
  refine D.fn.ok scAlone (fun vs H Q E h => ?_) (fun cdv A outer s H vs Q E hr h => ?_)
  · obtain ⟨a, fs, rfl, k, q⟩ := h
    rfl
  · obtain ⟨a, fs, rfl, k, q⟩ := h
    refine ⟨_, (pss_cons (ps_if (pt_val (pe_callB (call_isKT T.xc) (by rfl) T.isi (by decide +kernel) (pa_cons (pv 0) (pa_cons (pe_tup (pa_cons (pe_glob (v := .ref e.Lost) (by rfl) T.mLost rfl) (pa_cons (pe_glob (v := .ref e.Taken) (by rfl) T.mTaken rfl) (pa_cons (pe_glob (v := .ref e.NoCustom) (by rfl) T.mNoCustom rfl) (pa_cons (pe_glob (v := .ref e.NoDay) (by rfl) T.mNoDay rfl) (pa_cons (pe_glob (v := .ref e.NoDisc) (by rfl) T.mNoDisc rfl) (pa_cons (pe_glob (v := .ref e.NoEntry) (by rfl) T.mNoEntry rfl) (pa_cons (pe_glob (v := .ref e.NoKey) (by rfl) T.mNoKey rfl) (pa_cons (pe_glob (v := .ref e.NoLength) (by rfl) T.mNoLength rfl) pa_nil))))))))) pa_nil)))) (pss_one (ps_ret pe_bl)) pss_nil)
      (pss_cons (ps_if (pt_val (pe_callB (call_isKT T.xc) (by rfl) T.isi (by decide +kernel) (pa_cons (pv 0) (pa_cons (pe_tup (pa_cons (pe_glob (v := .ref e.NoLine) (by rfl) T.mNoLine rfl) (pa_cons (pe_glob (v := .ref e.NoName) (by rfl) T.mNoName rfl) (pa_cons (pe_glob (v := .ref e.NoNumber) (by rfl) T.mNoNumber rfl) (pa_cons (pe_glob (v := .ref e.NoPath) (by rfl) T.mNoPath rfl) (pa_cons (pe_glob (v := .ref e.Same) (by rfl) T.mSame rfl) (pa_cons (pe_glob (v := .ref e.Struck) (by rfl) T.mStruck rfl) (pa_cons (pe_glob (v := .ref e.Twice) (by rfl) T.mTwice rfl) pa_nil)))))))) pa_nil)))) (pss_one (ps_ret pe_bl)) pss_nil)
      (pss_one (ps_ret (pe_and (pe_callB (call_isK T.xc) (by rfl) T.isi (by decide +kernel) (pa_cons (pv 0) (pa_cons (pe_glob (v := .ref e.NoText) (by rfl) T.mNoText rfl) pa_nil))) (pe_and (pe_callB (call_isK T.xc) (by rfl) T.isi (by decide +kernel) (pa_cons (pv 0) (pa_cons (pe_glob (v := .ref e.NotSuch) (by rfl) T.mNotSuch rfl) pa_nil))) (pe_one (pe_callB (call_isK T.xc) (by rfl) T.isi (by decide +kernel) (pa_cons (pv 0) (pa_cons (pe_bltn (v := .ty "ValueError") (by rfl) T.ValueError (by decide +kernel) rfl) pa_nil)))))))))), ?_⟩
    refine ⟨_, rfl, (by show 8 ≤ sizeLine; decide), fun t nt => ⟨a, t, fs, _, _, false, rfl, k.same (same_upd nt), upd_same, (.cons (.own _) (.cons (.own _) (.cons (.own _) (.cons (.own _) (.cons (.own _) (.cons (.own _) (.cons (.own _) (.cons (.own _) .nil)))))))), T.kit1, false, rfl, iteF ?_⟩⟩
    refine ⟨_, rfl, (by show 7 ≤ sizeLine; decide), fun u nu => ⟨a, u, fs, _, _, false, rfl, (k.same (same_upd nt)).same (same_upd nu), upd_same, (.cons (.own _) (.cons (.own _) (.cons (.own _) (.cons (.own _) (.cons (.own _) (.cons (.own _) (.cons (.own _) .nil))))))), T.kit2, false, rfl, iteF ?_⟩⟩
    have k2 := (k.same (same_upd nt (o := .tup [.ref e.Lost, .ref e.Taken, .ref e.NoCustom, .ref e.NoDay, .ref e.NoDisc, .ref e.NoEntry, .ref e.NoKey, .ref e.NoLength]))).same (same_upd nu (o := .tup [.ref e.NoLine, .ref e.NoName, .ref e.NoNumber, .ref e.NoPath, .ref e.Same, .ref e.Struck, .ref e.Twice]))
    refine ⟨_, rfl, a, fs, _, _, true, rfl, k2, .own _, T.kit3, true, rfl, iteT ?_⟩
    refine ⟨_, rfl, a, fs, _, _, true, rfl, k2, .own _, T.kit4, true, rfl, iteT ?_⟩
    exact ⟨_, rfl, a, fs, _, _, true, rfl, k2, .ty _, T.kit5, q _ ((same_upd nt).trans (same_upd nu))⟩
theorem ok_asked {f : Addr} {fd : FuncData} {e : Ex} {fR : Addr} {fdR : FuncData} (D : Df K mg "_law_asked" ["_law_way", "_law_thing"] sAsked f fd) (T : Txt K mg C CL e) (DR : Df K mg "_law_read" ["_law_way", "_law_thing"] sRead fR fdR) (FR : FnOk P w K mg base (L2.CX P w) 12 fR fdR ["_law_way", "_law_thing"] (spRead K e)) (cA : Ca P w K mg base 1 "_law_alone" ["_law_e"] (spAlone e)) : FnOk P w K mg base CX0 13 f fd ["_law_way", "_law_thing"] (spAsked K) := by
  refine D.fn.ok scAsked (fun vs H Q E h => ?_) (fun cdv A outer s H vs Q E hr h => ?_)
  · obtain ⟨i, v, rfl, hi, th, hne, q⟩ := h
    rfl
  · obtain ⟨i, v, rfl, hi, th, hne, q⟩ := h
    refine ⟨_, (pss_cons (ps_set (i := 2) scAsked.nd rfl (.inl rfl) pe_non)
      (pss_cons (ps_try_keep (i := 3) (C1 := e.NotSuch) (C2 := e.Lost) (C3 := e.Taken) rfl rfl rfl scAsked.nd rfl rfl ⟨by rfl, by decide, T.mNotSuch⟩ ⟨by rfl, by decide, T.mLost⟩ ⟨by rfl, by decide, T.mTaken⟩ takes0 (fun W pn xe tk _ =>
        (pss_one (ps_expr (pe_callS FR (hr.mono (by decide)) (by rfl) DR.mgf DR.fn.kp DR.bd (fun σ => passAt tk σ) (pa_cons (pv 0) (pa_cons (pv 1) pa_nil)))))) (fun a pn => pss_one (ps_set (i := 2) scAsked.nd rfl (.inl rfl) (pv 3))))
      (pss_cons (ps_if (PW.pt (pw_or (pt_cmpR op_isN (pv 2) pe_non (nomark _)) (pw_or1 (pt_not (pt_val (pe_ca cA hr (by decide) (by rfl) (pa_cons (pv 2) pa_nil))))))) (pss_one (ps_ret pe_non)) pss_nil)
      (pss_one (ps_ret (pe_tup (pa_cons (pe_kf T.xc T.f1 (pv 2)) (pa_cons (pe_kf T.xc T.f2 (pv 2)) pa_nil)))))))), ?_⟩
    refine ⟨_, rfl, _, rfl, i, v, rfl, hi, th, hne, fun H1 s1 p H2 s2 ed => ⟨true, T.exm, fun _ y ny => ?_, fun z => nomatch z⟩⟩
    have sy := same_upd ny (o := ExK (.ref e.NoText) (some p) y)
    have kp : Kept (L2.upd H2 y (ExK (.ref e.NoText) (some p) y)) y e.NoText [("wanted", .str (wdW i)), ("row", .int 0)] := ⟨p, upd_same, sy _ _ ed⟩
    have s02 := (s1.trans s2).trans sy
    generalize L2.upd H2 y (ExK (.ref e.NoText) (some p) y) = H3 at kp s02 ⊢
    refine ⟨_, rfl, ?_⟩
    refine ⟨_, rfl, rfl, _, rfl, iteF ?_⟩
    refine ⟨_, rfl, y, _, rfl, kp, fun H4 s4 => ⟨_, rfl, iteF ?_⟩⟩
    have kp4 := kp.same s4
    have l1 : ([(("wanted" : Str), V.str (wdW i)), ("row", .int 0)] : List (Str × V)).lookup ("row" : Str) = some (.int 0) := by
      rw [List.lookup_cons, show (("row" : Str) == ("wanted" : Str)) = false by decide +kernel]
      exact List.lookup_cons_self
    have l2 : ([(("wanted" : Str), V.str (wdW i)), ("row", .int 0)] : List (Str × V)).lookup ("wanted" : Str) = some (.str (wdW i)) := List.lookup_cons_self
    refine ⟨_, rfl, y, _, .int 0, rfl, kp4, l1, _, rfl, y, _, .str (wdW i), rfl, kp4, l2, (by show 2 ≤ sizeLine; decide), fun t nt => ?_⟩
    exact q _ _ ((s02.trans s4).trans (same_upd nt)) upd_same
end
end K69
set_option Elab.async false
set_option linter.all false
set_option maxRecDepth 100000
set_option maxHeartbeats 4000000
set_option pp.maxSteps 400
set_option pp.deepTerms false
/-! text * int, of any text and any small number from nought on -/
namespace Xrep
open PySem PySem.Spec PyProof.Rows L2
/-- a text so many times -/
def rep (z : Str) (n : Nat) : Str := ⟨(List.replicate n z.cps.toList).flatten.toArray⟩
theorem rep_list (z : Str) (n : Nat) : (rep z n).cps.toList = (List.replicate n z.cps.toList).flatten := by
  unfold rep
  rw [List.toList_toArray]
theorem rep_len (z : Str) (n : Nat) : (rep z n).length = n * z.length := by
  show ((List.replicate n z.cps.toList).flatten.toArray).size = _
  rw [List.size_toArray, List.length_flatten, List.map_replicate, List.sum_replicate_nat]
  rfl
theorem fold_app : ∀ (xs : List (Array Nat)) (a : Array Nat), (xs.foldl (· ++ ·) a).toList = a.toList ++ (xs.map (·.toList)).flatten
  | [], a => by simp
  | x :: r, a => by
    rw [List.foldl_cons, fold_app r (a ++ x), Array.toList_append, List.map_cons, List.flatten_cons, List.append_assoc]
theorem fold_rep (z : Str) (n : Nat) : (⟨(List.replicate n z.cps).foldl (· ++ ·) #[]⟩ : Str) = rep z n := by
  have e := fold_app (List.replicate n z.cps) #[]
  rw [List.nil_append, List.map_replicate] at e
  unfold rep
  rw [← e]
section
variable {X : Cx}
theorem op_rep : OpR X (binaryOp .Mult) (fun x y H Q => ∃ (z : Str) (n : Nat), x = .str z ∧ y = .int (n : Nat) ∧ n ≤ 1000 ∧ z.length ≤ 1000 ∧ Q (.str (rep z n)) H) := by
  intro pins s σ H x y v u Q I rx ry h
  obtain ⟨z, n, rfl, rfl, hn, hz, q⟩ := h
  obtain ⟨t, rfl⟩ := rx
  obtain ⟨t2, rfl⟩ := ry
  have big : z.length * n ≤ 1000000 := Nat.le_trans (Nat.mul_le_mul hz hn) (by decide)
  have r0 : (decide (((n : Nat) : Int) < -(2 ^ 63 : Int)) || decide (((n : Nat) : Int) ≥ 2 ^ 63)) = false := by
    rw [decide_eq_false (show ¬ ((n : Nat) : Int) < -(2 ^ 63 : Int) by omega), decide_eq_false (show ¬ ((n : Nat) : Int) ≥ 2 ^ 63 by omega)]
    rfl
  have tl : Builtin.Str.tooLong (z.length * ((n : Nat) : Int).toNat) = false := by
    show decide (z.length * n > sizeLine) = false
    have : sizeLine = 16777216 := by decide
    exact decide_eq_false (by omega)
  refine PySem.P.mul_str r0 (fun h1 _ => ?_) (fun _ _ => tl) ?_
  · have p : (1 : Int) ≤ (n : Int) := by omega
    have d : (1000 : Int) ≤ (2 ^ 63 - 1) / (n : Int) := by
      refine Int.le_ediv_of_mul_le (by omega) ?_
      have : (1000 : Int) * (n : Int) ≤ 1000000 := by omega
      omega
    omega
  · by_cases h1 : ((n : Nat) : Int) < 1
    · rw [if_pos h1]
      have n0 : n = 0 := by omega
      subst n0
      exact ⟨by decide +kernel, .str Str.empty, H, I.tok _, ⟨_, rfl⟩, q⟩
    · rw [if_neg h1]
      by_cases h2 : (((n : Nat) : Int) == 1 || z.length == 0) = true
      · rw [if_pos h2]
        have e : z = rep z n := by
          rw [Bool.or_eq_true, beq_iff_eq, beq_iff_eq] at h2
          obtain ⟨c⟩ := z
          unfold rep
          rcases h2 with h2 | h2
          · have n1 : n = 1 := by omega
            subst n1
            simp
          · have ce : c = #[] := Array.eq_empty_of_size_eq_zero h2
            subst ce
            simp
        rw [← e] at q
        exact ⟨.str z, H, I, ⟨_, rfl⟩, q⟩
      · rw [if_neg h2]
        have ft : (rep z n).length ≤ sizeLine := by
          rw [rep_len]
          have : sizeLine = 16777216 := by decide
          have : n * z.length = z.length * n := Nat.mul_comm _ _
          omega
        rw [show ((n : Nat) : Int).toNat = n from rfl, fold_rep]
        exact ⟨ft, .str _, H, I.tok _, ⟨_, rfl⟩, q⟩
end
end Xrep
set_option Elab.async false
set_option linter.all false
set_option maxRecDepth 100000
set_option maxHeartbeats 4000000
set_option pp.maxSteps 400
set_option pp.deepTerms false
namespace K69
open PySem PySem.Spec PyProof.Rows L2
open Xk Az Xtx Xst
section
variable {P : Program} {w : World} {K : PySem.W.Frag} {mg : Str → Option Value} {base : Heap} {C CL : Addr}
section
variable {X : Cx}
/-- len(o) by its own __len__ -/
theorem cr_lenO {C f : Addr} {n : Nat} {fd : FuncData} {ps : List Str} {sp : Sp} (hs : PySem.W.findIn X.K (.ref C) "__len__" = some (some (.ref f))) (hf : PySem.W.isFn X.K (.ref f) = true) (room : Room (n + 1) X.A) (F : FnOk X.prog X.w X.K X.mg X.base CX0 n f fd ps sp) (bd : Binds X.K fd ps []) :
    CallR X (.builtin "len") (fun xs H Q => ∃ (a dx : Addr) (fs : List (Str × V)), xs = [.ref a] ∧ H a = some (.ins C dx fs) ∧ sp [.ref a] H (fun z H' => ∃ y : Nat, z = .int y ∧ y ≤ 100000 ∧ Q (.int y) H') E0) := by
  intro pins s σ H xs us Q I r h
  obtain ⟨a, dx, fs, rfl, ha, hsp⟩ := h
  obtain ⟨u, rfl, rx⟩ := vals1 r
  cases rx
  obtain ⟨mA, J, _⟩ := ins_get I.hok ha
  obtain ⟨oA, J, _⟩ := J.look
  refine Calls.call_function_entry kind_len plain_len entry_len (args_len1 _) ?_; unfold Builtin.«len»
  refine wpAny_bind (m := oneArg "len" _) (wpAny_pure ?_); refine wpAny_bind (m := callSpecial? (.ref a) (Str.ofString "__len__")) (PySem.W.special_fn I.kIn J hs (beq_iff_eq.mp hf) (wpAny_mono (own_run (A := X.A.in1) (vs := [.ref a]) I.ok.frames room.in1 F bd I (.cons rfl .nil) hsp) (fun v s' hv => ?_) fun _ _ z => z))
  obtain ⟨v', H', I', rv, y, rfl, hy, q⟩ := hv; obtain ⟨tk, rfl⟩ := rv
  refine wpAny_bind (wpAny_holding (wpAny_pure ?_)); refine wpAny_bind (wpAny_letGo ?_)
  show wpAny _ _ (if ((y : Nat) : Int) < 0 then _ else _) _ _ _
  rw [if_neg (by omega)]
  show wpAny _ _ (if ((y : Nat) : Int) ≥ 2 ^ 63 then _ else _) _ _ _
  rw [if_neg (by omega)]
  exact wpAny_bind (wpAny_mkInt (wpAny_pure ⟨_, rfl, .int y, H', I'.tok _, ⟨_, rfl⟩, q⟩))
end
/-- what a thing is shown as by repr -/
inductive Rp (K : PySem.W.Frag) (C CL : Addr) (H : Hp) : V → Str → Prop
  | dat {v : V} {d : PyData} (a : Dz K H v d) (b : Nice d 40 3000) : Rp K C CL H v d.shown
  | day {a : Addr} (e : DayAt C H a 1931 (some 4) (some 7)) : Rp K C CL H (.ref a) (dayRepr 1931 (some 4) (some 7))
  | len {a : Addr} (e : LenAt CL H a 187) : Rp K C CL H (.ref a) (lenRepr 187)
theorem Rp.same {C CL : Addr} {H H' : Hp} {v : V} {x : Str} (h : Rp K C CL H v x) (s : L2.Same H H') : Rp K C CL H' v x := by
  cases h with
  | dat a b => exact .dat (a.same s) b
  | day e => exact .day (e.same s)
  | len e => exact .len (e.same s)
def rRp (K : PySem.W.Frag) (C CL : Addr) : List V → Hp → VK → Prop := fun xs H Q => ∃ (v : V) (x : Str), xs = [v] ∧ Rp K C CL H v x ∧ Q (.str x) H
section
variable {X : Cx}
theorem cr_rp {C CL fS fR gS gR : Addr} {fdS fdR gdS gdR : FuncData} (quiet : X.A.guards = some []) (room : Room 4 X.A) (O : Sh X.prog X.w X.K X.mg X.base C 1 fS fR fdS fdR (spStrD C) (spReprD C)) (OL : Sh X.prog X.w X.K X.mg X.base CL 2 gS gR gdS gdR (spStrL CL) (spReprL CL)) :
    CallR X (.builtin "repr") (rRp X.K C CL) := by
  intro pins s σ H xs us Q I r h
  obtain ⟨v, x, rfl, hR, q⟩ := h
  cases hR with
  | dat a b => exact cr_reprZ quiet room pins s σ H _ us Q I r ⟨_, _, rfl, a, b.sh, Nat.le_trans b.dp (by decide), Nat.le_trans b.sz (by decide), q⟩
  | day e =>
    obtain ⟨dx, e⟩ := id e
    exact cr_reprO O.hr O.rf (room.mono (by decide)) O.okR O.bdR pins s σ H _ us Q I r ⟨_, dx, _, rfl, e, _, 1931, some 4, some 7, rfl, ⟨dx, e⟩, (by simp only [Good]; decide +kernel), _, rfl, q⟩
  | len e =>
    obtain ⟨dx, e⟩ := id e
    exact cr_reprO OL.hr OL.rf (room.mono (by decide)) OL.okR OL.bdR pins s σ H _ us Q I r ⟨_, dx, _, rfl, e, _, 187, rfl, ⟨dx, e⟩, (by decide), (by decide), _, rfl, q⟩
end
theorem bl_nice {x : Str} (h : Bl x) : Nice (.str x) 40 3000 := by
  have a : ∀ c ∈ x.cps.toList, c < 16 ^ 8 := fun c hc => by
    rcases h.1 c hc with z | z <;> rw [z] <;> decide
  have := PySem.StrLaws.reprText_len x a
  have := h.2
  exact (nice_str (n := 3000) (by omega)).mono (by decide) (Nat.le_refl _)
/-- the kinds of Day and Length are no text's -/
structure NoS (K : PySem.W.Frag) (C CL : Addr) : Prop where
  d : PySem.W.kitOne K (.ref C) (.type "str") = some false
  l : PySem.W.kitOne K (.ref CL) (.type "str") = some false
/-- what is asked of each thing -/
def Itm (K : PySem.W.Frag) (C CL : Addr) (H : Hp) (v : V) : Prop := Thn K H v ∧ v ≠ .str "" ∧ ∃ x, Rp K C CL H v x
theorem tyx_same {H H' : Hp} {v : V} {t : Value} (h : TyX K H v t) (s : L2.Same H H') : TyX K H' v t := by
  cases h with
  | base h =>
    cases h with
    | non => exact .base .non
    | bl x => exact .base (.bl x)
    | int x => exact .base (.int x)
    | str x => exact .base (.str x)
    | flt x => exact .base (.flt x)
    | lst e => exact .base (.lst (s _ _ e))
    | frz e => exact .base (.frz (s _ _ e))
    | tup e => exact .base (.tup (s _ _ e))
    | dK e => exact .base (.dK (s _ _ e))
    | dT e => exact .base (.dT (s _ _ e))
    | ins e a b c d f => exact .base (.ins (s _ _ e) a b c d f)
  | byt b => exact .byt b
  | set e => exact .set (s _ _ e)
  | kList e c => exact .kList e c
  | kTuple e c => exact .kTuple e c
  | kDict e c => exact .kDict e c
  | fTuple e => exact .fTuple (s _ _ e)
  | fDict e => exact .fDict (s _ _ e)
theorem thn_same {H H' : Hp} {v : V} (h : Thn K H v) (s : L2.Same H H') : Thn K H' v := by
  rcases h with ⟨x, rfl, b⟩ | ⟨t, ht, k⟩
  · exact .inl ⟨x, rfl, b⟩
  · exact .inr ⟨t, tyx_same ht s, k⟩
theorem Itm.same {C CL : Addr} {H H' : Hp} {v : V} (h : Itm K C CL H v) (s : L2.Same H H') : Itm K C CL H' v := by
  obtain ⟨a, b, x, r⟩ := h
  exact ⟨thn_same a s, b, x, r.same s⟩
theorem Thg.itm {e : Ex} {C CL h : Addr} {H : Hp} {v : V} (T : Txt K mg C CL e) (N : NoS K C CL) (a : Thg K C CL h H v) : Itm K C CL H v := by
  cases a with
  | @dat _ d a b c =>
    have a' := a.same off_all
    refine ⟨.inr ⟨_, a'.ty, ?_⟩, fun z => ?_, _, .dat a' b⟩
    · cases d with
      | none => exact kit_ty (by decide +kernel)
      | bool b => exact kit_ty (by show kitB "bool" "str" = some false; decide +kernel)
      | int i => exact kit_ty (by show kitB "int" "str" = some false; decide +kernel)
      | str x => exact absurd rfl c
      | list ds => exact kit_ty (by show kitB "list" "str" = some false; decide +kernel)
      | tuple ds => exact kit_ty (by show kitB "tuple" "str" = some false; decide +kernel)
      | dict ds => exact kit_ty (by show kitB "dict" "str" = some false; decide +kernel)
    · rw [z] at a
      cases a
      exact absurd rfl c
  | @day a e n =>
    obtain ⟨dx, e2⟩ := id e
    exact ⟨.inr ⟨_, .base (.ins e2 T.cl T.ins.ha T.ins.hn T.ins.htk T.ins.hm), N.d⟩, (fun z => by cases z), _, .day e⟩
  | @len a e n =>
    obtain ⟨dx, e2⟩ := id e
    exact ⟨.inr ⟨_, .base (.ins e2 T.clL T.insL.ha T.insL.hn T.insL.htk T.insL.hm), N.l⟩, (fun z => by cases z), _, .len e⟩
theorem bl_itm {C CL : Addr} {H : Hp} {x : Str} (b : Bl x) (n : x ≠ "") : Itm K C CL H (.str x) := ⟨.inl ⟨x, rfl, b⟩, (fun z => n (V.str.inj z)), _, .dat (.str x) (bl_nice b)⟩
def wds : List Str := ["day", "length", "name", "entry", "disc", "work", "entry"]
theorem wds_at : ∀ i, i < 7 → wds[i]? = some (wdW i)
  | 0, _ => rfl
  | 1, _ => rfl
  | 2, _ => rfl
  | 3, _ => rfl
  | 4, _ => rfl
  | 5, _ => rfl
  | 6, _ => rfl
  | n + 7, h => absurd h (by omega)
def answ (i : Nat) : PyData := .tuple [.int 0, .str (wdW i)]
theorem answ_nice : ∀ i, Nice (answ i) 40 3000
  | 0 => ⟨by decide +kernel, by decide +kernel, by decide +kernel⟩
  | 1 => ⟨by decide +kernel, by decide +kernel, by decide +kernel⟩
  | 2 => ⟨by decide +kernel, by decide +kernel, by decide +kernel⟩
  | 3 => ⟨by decide +kernel, by decide +kernel, by decide +kernel⟩
  | 4 => ⟨by decide +kernel, by decide +kernel, by decide +kernel⟩
  | 5 => ⟨by decide +kernel, by decide +kernel, by decide +kernel⟩
  | n + 6 => ⟨by show (PyData.tuple [.int 0, .str "entry"]).showable = true; decide +kernel, by show (PyData.tuple [.int 0, .str "entry"]).depth ≤ 40; decide +kernel, by show (PyData.tuple [.int 0, .str "entry"]).shown.length ≤ 3000; decide +kernel⟩
theorem answ_eq : ∀ i, SeqAt.shaped (answ i) = true ∧ PyData.eqv (answ i) (answ i) = true
  | 0 => ⟨by decide +kernel, by decide +kernel⟩
  | 1 => ⟨by decide +kernel, by decide +kernel⟩
  | 2 => ⟨by decide +kernel, by decide +kernel⟩
  | 3 => ⟨by decide +kernel, by decide +kernel⟩
  | 4 => ⟨by decide +kernel, by decide +kernel⟩
  | 5 => ⟨by decide +kernel, by decide +kernel⟩
  | n + 6 => ⟨by show SeqAt.shaped (PyData.tuple [.int 0, .str "entry"]) = true; decide +kernel, by show PyData.eqv (PyData.tuple [.int 0, .str "entry"]) (PyData.tuple [.int 0, .str "entry"]) = true; decide +kernel⟩
theorem rep_bl {k : Nat} (h : k < 40) : Bl (Xrep.rep " " k ++ "\n") ∧ Xrep.rep " " k ++ "\n" ≠ "" := by
  have all : ∀ k, k < 40 → (((TL.tl (Xrep.rep " " k ++ "\n")).all fun c => decide (c = 32 ∨ c = 10)) && decide ((Xrep.rep " " k ++ "\n").length ≤ 60) && decide (Xrep.rep " " k ++ "\n" ≠ "")) = true := by decide +kernel
  have a := all k h
  simp only [Bool.and_eq_true, List.all_eq_true, decide_eq_true_eq] at a
  exact ⟨⟨a.1.1, a.1.2⟩, a.2⟩
/-- the empty Listing's own ways -/
structure LsO (P : Program) (w : World) (K : PySem.W.Frag) (mg : Str → Option Value) (base : Heap) (CI fE fL fN : Addr) (dE dL dN : FuncData) : Prop where
  hE : PySem.W.findIn K (.ref CI) "__eq__" = some (some (.ref fE))
  iE : PySem.W.isFn K (.ref fE) = true
  okE : FnOk P w K mg base CX0 1 fE dE ["self", "other"] (L2.spEq (LiR CI))
  bE : Binds K dE ["self", "other"] []
  hL : PySem.W.findIn K (.ref CI) "__len__" = some (some (.ref fL))
  iL : PySem.W.isFn K (.ref fL) = true
  okL : FnOk P w K mg base CX0 1 fL dL ["self"] (spLiL CI)
  bL : Binds K dL ["self"] []
  mN : Meth K CI "entries" fN
  okN : FnOk P w K mg base CX0 4 fN dN ["self"] (spLiE CI)
  bN : Binds K dN ["self"] []
def spRight : Sp := fun vs H Q _ => ∃ h, vs = [.ref h] ∧ Hand 0 H h ∧ ∀ H', But h H H' → Q (.bl true) H'
theorem ok_right {f : Addr} {fd : FuncData} {e : Ex} {CI : Addr} {fS fR gS gR : Addr} {fdS fdR gdS gdR : FuncData} {fI fE fL fN f6 : Addr} {fdI dE dL dN fd6 : FuncData} (D : Df K mg "_law_right" ["_law_hand_here"] sRight f fd) (T : Txt K mg C CL e) (O : Sh P w K mg base C 1 fS fR fdS fdR (spStrD C) (spReprD C)) (OL : Sh P w K mg base CL 2 gS gR gdS gdR (spStrL CL) (spReprL CL)) (NS : NoS K C CL) (L : LiC K mg CI) (G : Lst P w K mg base CI fI fdI) (LS : LsO P w K mg base CI fE fL fN dE dL dN) (cT : Ca P w K mg base 1 "_law_take" ["_law_hand_here", "_law_many"] spTake) (cTh : Ca P w K mg base 9 "_law_things" ["_law_hand_here"] (spThings K C CL)) (cAs : Ca P w K mg base 13 "_law_asked" ["_law_way", "_law_thing"] (spAsked K)) (D6 : Df K mg "read_listing" ["text"] sReadListing f6 fd6) (F6 : FnOk P w K mg base CX0 11 f6 fd6 ["text"] (spRd0 CI)) : Gn P w K mg base 14 f fd ["_law_hand_here"] spRight := by
  obtain ⟨ds, rd, bd⟩ := G.b0
  refine gn_body D.fn scRight (fun vs H Q E h => ?_) (fun cdv A outer s H vs Q E hg hr h => ?_)
  · obtain ⟨h, rfl, hh, q⟩ := h
    rfl
  · obtain ⟨h, rfl, hh, q⟩ := h
    refine ⟨_, (pss_cons (ps_set (i := 1) scRight.nd rfl (.inl rfl) (pe_lst (pa_cons pe_str (pa_cons pe_str (pa_cons pe_str (pa_cons pe_str (pa_cons pe_str (pa_cons pe_str (pa_cons pe_str pa_nil)))))))))
      (pss_cons (ps_for PassesOwn.never rfl (pi_list (pe_op op_cat (pe_ca cTh hr (by decide) (by rfl) (pa_cons (pv 0) pa_nil)) (pe_lst (pa_cons pe_str (pa_cons pe_str (pa_cons pe_str (pa_cons pe_str (pa_cons (pe_op op_add_str (pe_op Xrep.op_rep pe_str (pe_ca cT hr (by decide) (by rfl) (pa_cons (pv 0) (pa_cons pe_int pa_nil)))) pe_str) pa_nil)))))))) (pg_name (i := 2) scRight.nd rfl (.inl rfl)) (pss_cons (ps_set (i := 3) scRight.nd rfl (.inl rfl) (pe_callB (cr_rp hg (hr.mono (by decide)) O OL) (by rfl) T.repr (by decide +kernel) (pa_cons (pv 2) pa_nil)))
      (pss_one (ps_for PassesOwn.never rfl (pi_enum (by rfl) T.enumerate (pa_cons (pv 1) pa_nil)) (pg_tup (by rfl) (pgs_cons (pg_name (i := 4) scRight.nd rfl (.inl rfl)) (pgs_cons (pg_name (i := 5) scRight.nd rfl (.inl rfl)) pgs_nil))) (pss_one (ps_if (PW.pt (pw_or (pt_cmpR op_ne (pe_callB (cr_rp hg (hr.mono (by decide)) O OL) (by rfl) T.repr (by decide +kernel) (pa_cons (pe_ca cAs hr (by decide) (by rfl) (pa_cons (pv 4) (pa_cons (pv 2) pa_nil))) pa_nil)) (pe_callB (cr_rp hg (hr.mono (by decide)) O OL) (by rfl) T.repr (by decide +kernel) (pa_cons (pe_tup (pa_cons pe_int (pa_cons (pv 5) pa_nil))) pa_nil)) (nomark _)) (pw_or1 (pt_cmpR op_ne (pe_callB (cr_rp hg (hr.mono (by decide)) O OL) (by rfl) T.repr (by decide +kernel) (pa_cons (pv 2) pa_nil)) (pv 3) (nomark _))))) (pss_one (ps_ret pe_bl)) pss_nil))))))
      (pss_cons (ps_for PassesOwn.never rfl (pi_enum (by rfl) T.enumerate (pa_cons (pe_slice sl_list (pv 1) po_none (po_some pe_int)) pa_nil)) (pg_tup (by rfl) (pgs_cons (pg_name (i := 4) scRight.nd rfl (.inl rfl)) (pgs_cons (pg_name (i := 5) scRight.nd rfl (.inl rfl)) pgs_nil))) (pss_one (ps_if (pt_cmpR (op_neD hr.units) (pe_ca cAs hr (by decide) (by rfl) (pa_cons (pv 4) (pa_cons pe_str pa_nil))) (pe_tup (pa_cons pe_int (pa_cons (pv 5) pa_nil))) (nomark _)) (pss_one (ps_ret pe_bl)) pss_nil)))
      (pss_cons (ps_set (i := 6) scRight.nd rfl (.inl rfl) (pe_call F6 (hr.mono (by decide)) (by rfl) D6.mgf D6.fn.kp D6.bd .nil pass0 (pa_cons pe_str pa_nil)))
      (pss_one (ps_ret (pe_and (pe_callB call_isi (by rfl) T.isi (by decide +kernel) (pa_cons (pv 6) (pa_cons (pe_glob (v := .ref CI) (by rfl) L.mgI rfl) pa_nil))) (pe_and (pe_cmpR op_eq (pe_callB (cr_lenO LS.hL LS.iL (hr.mono (by decide)) LS.okL LS.bL) (by rfl) T.len PySem.boot_len (pa_cons (pv 6) pa_nil)) pe_int (nomark _)) (pe_and (pe_cmpR (op_eqG (rcG_ins LS.okE LS.hE LS.iE LS.bE pass0) (hr.mono (by decide))) (pv 6) (pe_make0 G.mm G.ok (hr.mono (by decide)) (by rfl) L.mgI bd rd pass0) (nomark _)) (pe_one (pe_cmpR (op_eqD hr.units) (pe_meth0 (pv 6) L.cls LS.mN LS.okN (hr.mono (by decide)) LS.bN .nil pass0) (pe_tup pa_nil) (nomark _)))))))))))), ?_⟩
    refine ⟨(by show 7 ≤ sizeLine; decide), fun W nW => ?_⟩
    have sW := same_upd nW (o := .lst (wds.map V.str))
    have eW : (L2.upd H W (.lst (wds.map V.str))) W = some (.lst (wds.map V.str)) := upd_same
    have hhW := hh.same sW
    have Wh : W ≠ h := hh.fresh nW
    have bW := Same.but sW h
    generalize hGW : L2.upd H W (.lst (wds.map V.str)) = HW at sW eW hhW bW
    rw [show L2.upd H W (.lst [V.str "day", V.str "length", V.str "name", V.str "entry", V.str "disc", V.str "work", V.str "entry"]) = HW from hGW]
    clear hGW
    refine ⟨_, rfl, h, 0, rfl, hhW, by decide, fun l us H1 e1 lh l30 al h1 b1 => ?_⟩
    refine ⟨_, rfl, h, 40, 0 + 100, rfl, by decide, by decide, h1, by decide, fun kI H2 k0 k1 h2 b2 => ?_⟩
    obtain ⟨k, rfl⟩ : ∃ k : Nat, kI = (k : Int) := ⟨kI.toNat, by omega⟩
    have k40 : k < 40 := by omega
    obtain ⟨rb, rn⟩ := rep_bl k40
    have rl : (Xrep.rep " " k).length ≤ 60 := by
      have := rb.2
      rw [strLen_append] at this
      omega
    refine ⟨" ", k, rfl, rfl, by omega, by decide +kernel, _, _, rfl, rfl, fitN (by have c1 : ("\n" : Str).length = 1 := (by decide +kernel); omega), (by show 5 ≤ sizeLine; decide), fun m nm => ?_⟩
    have sm := same_upd nm (o := .lst [.str " ", .str "\n", .str "\n\n", .str "  \n", .str (Xrep.rep " " k ++ "\n")])
    refine ⟨l, m, _, _, rfl, rfl, sm _ _ (b2 _ _ lh e1), upd_same, (by show us.length + 5 ≤ sizeLine; exact Nat.le_trans (show _ ≤ 35 by omega) (by decide)), fun Z nZ => ?_⟩
    have sZ := same_upd nZ (o := .lst (us ++ [.str " ", .str "\n", .str "\n\n", .str "  \n", .str (Xrep.rep " " k ++ "\n")]))
    have smZ := sm.trans sZ
    have bZ : But h H (L2.upd (L2.upd H2 m (.lst [.str " ", .str "\n", .str "\n\n", .str "  \n", .str (Xrep.rep " " k ++ "\n")])) Z (.lst (us ++ [.str " ", .str "\n", .str "\n\n", .str "  \n", .str (Xrep.rep " " k ++ "\n")]))) := ((bW.trans b1).trans b2).trans (Same.but smZ h)
    have all : ∀ u ∈ us ++ [.str " ", .str "\n", .str "\n\n", .str "  \n", .str (Xrep.rep " " k ++ "\n")], Itm K C CL (L2.upd (L2.upd H2 m (.lst [.str " ", .str "\n", .str "\n\n", .str "  \n", .str (Xrep.rep " " k ++ "\n")])) Z (.lst (us ++ [.str " ", .str "\n", .str "\n\n", .str "  \n", .str (Xrep.rep " " k ++ "\n")]))) u := fun u hu => by
      rcases List.mem_append.mp hu with hu | hu
      · exact (((al u hu).but b2).same smZ).itm T NS
      · simp only [List.mem_cons, List.not_mem_nil, or_false] at hu
        have cb : ∀ x : Str, (((TL.tl x).all fun c => decide (c = 32 ∨ c = 10)) && decide (x.length ≤ 60) && decide (x ≠ "")) = true → Itm K C CL (L2.upd (L2.upd H2 m (.lst [.str " ", .str "\n", .str "\n\n", .str "  \n", .str (Xrep.rep " " k ++ "\n")])) Z (.lst (us ++ [.str " ", .str "\n", .str "\n\n", .str "  \n", .str (Xrep.rep " " k ++ "\n")]))) (.str x) := fun x a => by
          simp only [Bool.and_eq_true, List.all_eq_true, decide_eq_true_eq] at a
          exact bl_itm ⟨a.1.1, a.1.2⟩ a.2
        rcases hu with rfl | rfl | rfl | rfl | rfl
        · exact cb _ (by decide +kernel)
        · exact cb _ (by decide +kernel)
        · exact cb _ (by decide +kernel)
        · exact cb _ (by decide +kernel)
        · exact bl_itm rb rn
    have eZ : (L2.upd (L2.upd H2 m (.lst [.str " ", .str "\n", .str "\n\n", .str "  \n", .str (Xrep.rep " " k ++ "\n")])) Z (.lst (us ++ [.str " ", .str "\n", .str "\n\n", .str "  \n", .str (Xrep.rep " " k ++ "\n")]))) Z = some (.lst (us ++ [.str " ", .str "\n", .str "\n\n", .str "  \n", .str (Xrep.rep " " k ++ "\n")])) := upd_same
    have eWZ := smZ _ _ (b2 _ _ Wh (b1 _ _ Wh eW))
    generalize L2.upd (L2.upd H2 m (.lst [.str " ", .str "\n", .str "\n\n", .str "  \n", .str (Xrep.rep " " k ++ "\n")])) Z (.lst (us ++ [.str " ", .str "\n", .str "\n\n", .str "  \n", .str (Xrep.rep " " k ++ "\n")])) = HZ at bZ all eZ eWZ ⊢
    clear sm sZ smZ rb rn rl e1 al h1 b1 h2 b2 nZ nm hhW bW sW nW eW
    generalize us ++ [.str " ", .str "\n", .str "\n\n", .str "  \n", .str (Xrep.rep " " k ++ "\n")] = zs at all eZ
    have bl0 : Bl "" := ⟨by decide +kernel, by decide +kernel⟩
    refine ⟨Z, rfl, ⟨_, SqL.of eZ⟩, for_list (K := K) (a := Z) (xs := zs) (fun i σ Hi => ∃ (c2 c3 c4 c5 : Option V), σ = [some (.ref h), some (.ref W), c2, c3, c4, c5, none] ∧ L2.Same HZ Hi) ⟨none, none, none, none, rfl, Same.refl _⟩ (fun i σ Hi _ z => by obtain ⟨_, _, _, _, _, s⟩ := z; exact SqL.of (s _ _ eZ)) ?_ ?_⟩
    · rintro i v σ Hi hv ⟨c2, c3, c4, c5, rfl, s0⟩
      obtain ⟨th, vne, x, rp⟩ := (all v (List.mem_of_getElem? hv)).same s0
      refine ⟨_, rfl, v, x, rfl, rp, ?_⟩
      refine ⟨_, rfl, W, _, rfl, SqL.of (s0 _ _ eWZ), ?_⟩
      refine for_it (walk_enum (K := K) (a := W) (xs := wds.map V.str)) (fun j σ Hj => ∃ (c4 c5 : Option V), σ = [some (.ref h), some (.ref W), some v, some (.str x), c4, c5, none] ∧ L2.Same Hi Hj) ⟨c4, c5, rfl, Same.refl _⟩ (fun j σ Hj _ z => by obtain ⟨_, _, _, s⟩ := z; exact SqL.of (s _ _ (s0 _ _ eWZ))) ?_ ?_
      · rintro j v2 σ Hj H' hj ⟨c4, c5, rfl, s1⟩ ⟨t, y1, y2, rfl, nt, rfl, ex1, ey1⟩
        have j7 : j < 7 := hj
        obtain rfl : V.int (j : Nat) = y1 := Option.some.inj ex1
        dsimp only at ey1
        rw [List.getElem?_map, wds_at j j7] at ey1
        obtain rfl : V.str (wdW j) = y2 := Option.some.inj ey1
        have st := same_upd nt (o := .tup [.int (j : Nat), .str (wdW j)])
        have s2 := s1.trans st
        have et : (L2.upd Hj t (.tup [.int (j : Nat), .str (wdW j)])) t = some (.tup [.int (j : Nat), .str (wdW j)]) := upd_same
        generalize L2.upd Hj t (.tup [.int (j : Nat), .str (wdW j)]) = Hk at s2 et ⊢
        clear st nt s1
        refine ⟨t, _, rfl, SqT.of et, rfl, _, _, rfl, _, _, rfl, rfl, ?_⟩
        refine ⟨_, rfl, _, rfl, j, v, rfl, j7, thn_same th s2, fun _ => vne, fun t1 H3 s3 e3 => ⟨.ref t1, (answ j).shown, rfl, .dat (.tup e3 (.cons (.int _) (.cons (.str _) .nil))) (answ_nice j), ?_⟩⟩
        refine ⟨_, rfl, (by show 2 ≤ sizeLine; decide), fun t2 n2 => ⟨.ref t2, (answ j).shown, rfl, .dat (.tup upd_same (.cons (.int _) (.cons (.str _) .nil))) (answ_nice j), ?_⟩⟩
        have s4 := (s2.trans s3).trans (same_upd n2 (o := .tup [.int 0, .str (wdW j)]))
        generalize L2.upd H3 t2 (.tup [.int 0, .str (wdW j)]) = H4 at s4 ⊢
        have ne0 : ∀ z : Str, (!decide (V.str z = V.str z)) = false := fun z => by simp
        refine ⟨rfl, _, rfl, ?_⟩
        rw [ne0]
        refine iteF ⟨_, rfl, v, x, rfl, rp.same s4, _, rfl, rfl, _, rfl, ?_⟩
        rw [ne0]
        exact iteF ⟨_, _, rfl, s4⟩
      · rintro σ Hj ⟨c4, c5, rfl, s1⟩
        exact ⟨_, _, _, _, rfl, s0.trans s1⟩
    rintro σ H5 ⟨c2, c3, c4, c5, rfl, s0⟩
    refine ⟨_, rfl, _, rfl, W, _, rfl, SqL.of (s0 _ _ eWZ), fun p np => ?_⟩
    have cv : cutV (wds.map V.str) none (some (6 : Int)) = (wds.take 6).map V.str := by rfl
    have cv2 : ∀ Hx : Hp, L2.upd Hx p (.lst (cutV (wds.map V.str) none (some (6 : Int)))) = L2.upd Hx p (.lst ((wds.take 6).map V.str)) := fun Hx => by rw [cv]
    have sp := same_upd np (o := .lst (cutV (wds.map V.str) none (some (6 : Int))))
    have ep : (L2.upd H5 p (.lst (cutV (wds.map V.str) none (some (6 : Int))))) p = some (.lst ((wds.take 6).map V.str)) := by rw [cv]; exact upd_same
    generalize L2.upd H5 p (.lst (cutV (wds.map V.str) none (some (6 : Int)))) = H6 at sp ep ⊢
    refine ⟨p, _, rfl, SqL.of ep, ?_⟩
    refine for_it (walk_enum (K := K) (a := p) (xs := (wds.take 6).map V.str)) (fun j σ Hj => ∃ (c2 c3 c4 c5 : Option V), σ = [some (.ref h), some (.ref W), c2, c3, c4, c5, none] ∧ L2.Same H6 Hj) ⟨c2, c3, c4, c5, rfl, Same.refl _⟩ (fun j σ Hj _ z => by obtain ⟨_, _, _, _, _, s⟩ := z; exact SqL.of (s _ _ ep)) ?_ ?_
    · rintro j v2 σ Hj H' hj ⟨c2, c3, c4, c5, rfl, s1⟩ ⟨t, y1, y2, rfl, nt, rfl, ex1, ey1⟩
      have j6 : j < 6 := hj
      obtain rfl : V.int (j : Nat) = y1 := Option.some.inj ex1
      dsimp only at ey1
      rw [List.getElem?_map, List.getElem?_take_of_lt j6, wds_at j (by omega)] at ey1
      obtain rfl : V.str (wdW j) = y2 := Option.some.inj ey1
      have st := same_upd nt (o := .tup [.int (j : Nat), .str (wdW j)])
      have s2 := s1.trans st
      have et : (L2.upd Hj t (.tup [.int (j : Nat), .str (wdW j)])) t = some (.tup [.int (j : Nat), .str (wdW j)]) := upd_same
      generalize L2.upd Hj t (.tup [.int (j : Nat), .str (wdW j)]) = Hk at s2 et ⊢
      clear st nt s1
      refine ⟨t, _, rfl, SqT.of et, rfl, _, _, rfl, _, _, rfl, rfl, ?_⟩
      refine ⟨_, rfl, j, .str "", rfl, by omega, .inl ⟨"", rfl, bl0⟩, fun z => absurd z (by omega), fun t1 H3 s3 e3 => ?_⟩
      refine ⟨_, rfl, (by show 2 ≤ sizeLine; decide), fun t2 n2 => ?_⟩
      have s4 := same_upd n2 (o := .tup [.int 0, .str (wdW j)])
      obtain ⟨sh, ee⟩ := answ_eq j
      refine ⟨answ j, answ j, .tup (SqT.of (s4 _ _ e3)) (.cons (.int _) (.cons (.str _) .nil)), .tup (SqT.of upd_same) (.cons (.int _) (.cons (.str _) .nil)), sh, sh, _, rfl, ?_⟩
      rw [ee]
      exact iteF ⟨_, _, _, _, rfl, (s2.trans s3).trans s4⟩
    rintro σ H7 ⟨c2, c3, c4, c5, rfl, s1⟩
    refine ⟨rfl, fun x H8 nx li s8 => ?_⟩
    obtain ⟨dx, d, ex, ed⟩ := id li
    have s58 := (s0.trans sp).trans (s1.trans s8)
    refine ⟨_, rfl, _, _, _, _, true, rfl, .own CI, .base (.ins ex L.cls L.ins.ha L.ins.hn L.ins.htk L.ins.hm), L.me, true, rfl, iteT ?_⟩
    refine ⟨_, rfl, x, dx, _, rfl, ex, x, rfl, li, 0, rfl, by decide, rfl, true, rfl, iteT ?_⟩
    refine ⟨_, rfl, fun x2 dx2 nx2 nd2 ne2 => ⟨x2, dx2, .non, rfl, upd_same, .inl rfl, fun H9 li2 keep => ⟨rfl, ?_⟩⟩⟩
    have s9 : L2.Same H8 H9 := fun b z eb => keep b z (ne_of_none eb nx2) (made_same nx2 nd2 b z eb)
    have li9 := li.same s9
    obtain ⟨dy, d9, ey, ed9⟩ := id li2
    refine ⟨⟨x, x2, dx, dy, _, _, rfl, rfl, s9 _ _ ex, ey, li9, li2⟩, fun HA sA => ?_⟩
    have liA := li9.same sA
    obtain ⟨dz, dd, ez, _⟩ := id liA
    refine ⟨true, rfl, iteT ?_⟩
    have nl : ∀ d : Addr, ([(("sheets" : Str), V.ref d)] : List (Str × V)).lookup ("entries" : Str) = none := fun d => by
      rw [List.lookup_cons, show (("entries" : Str) == ("sheets" : Str)) = false by decide +kernel]
      rfl
    refine ⟨_, rfl, x, dz, _, rfl, ez, nl _, x, rfl, liA, fun t HB sB et => ?_⟩
    refine ⟨(by show 0 ≤ sizeLine; decide), fun t2 n2 => ?_⟩
    have sC := same_upd n2 (o := .tup [])
    refine ⟨.tuple [], .tuple [], .tup (SqT.of (sC _ _ et)) .nil, .tup (SqT.of upd_same) .nil, by decide +kernel, by decide +kernel, ?_⟩
    rw [show PyData.eqv (.tuple []) (.tuple []) = true by decide +kernel]
    exact q _ (bZ.trans (Same.but ((((s58.trans s9).trans sA).trans sB).trans sC) h))
end
end K69
set_option Elab.async false
set_option linter.all false
set_option maxRecDepth 100000
set_option maxHeartbeats 4000000
set_option pp.maxSteps 400
set_option pp.deepTerms false
/-! calls by names alone -/
namespace Xkw
open PySem PySem.Spec PyProof.Rows L2
section
variable {X : Cx} {CX : CXT} {k : Nat} {f : Addr} {fd : FuncData} {ps ks : List Str} {sp : Sp} {E : XK} {x : Str} {p pos : Pos} {kws : List Keyword} {tk : TA} {g : List Value → List Value → List Value} {gV : List V → List V → List V}
theorem pe_callN0 (F : FnOk X.prog X.w X.K X.mg X.base CX k f fd ps sp) (room : Room k X.A) (gl : Gl X x) (mgf : X.mg x = some (.ref f)) (kp : PySem.W.keepIn X.K (.ref f) = true) (kb : KBn X.K fd ps 0 ks g gV) (px : Passes CX X E) (pk : PK X kws tk)
    (hall : (backToKw pos (keywordEach kws X.env)).all (·.1.isSome) = true := by rfl) (hks : (backToKw pos (keywordEach kws X.env)).filterMap (·.1) = ks := by rfl) (hdb : (x == ("__debug__" : Str)) = false := by decide)
    (hpl : ((backTo pos (starEach [] X.env)).any (·.1) || (backToKw pos (keywordEach kws X.env)).any (·.1.isNone)) = false := by rfl) : PE X (.Call (.Name x p) [] kws pos) (tCallN 0 ks.length sp gV E tNil tk) := by
  refine ⟨fun pins s σ H Q I h => wpAny_Call_Name_kw (ld_glob I gl mgf ?_ hdb)⟩
  refine PySem.W.callWith_KW0 (h₀ := X.base) I.ok.mod.kin kp hall (thn (pk.run pos pins s σ H _ I h) fun ws s2 z => ?_) hpl
  obtain ⟨zs, H2, I2, rz, l1, l2, q2⟩ := z
  refine ⟨I2.kIn, ?_⟩
  rw [hks]
  exact run_fnN (us := []) (vs := []) F room kb px I2 .nil rz l1 l2 q2
end
/-- a def that may be called by names alone, in this order -/
structure Cw (P : Program) (w : World) (K : PySem.W.Frag) (mg : Str → Option Value) (base : Heap) (CX : CXT) (k : Nat) (x : Str) (ps ks : List Str) (gV : List V → List V → List V) (sp : Sp) : Prop where
  ex : ∃ (f : Addr) (fd : FuncData) (g : List Value → List Value → List Value), FnOk P w K mg base CX k f fd ps sp ∧ mg x = some (.ref f) ∧ PySem.W.keepIn K (.ref f) = true ∧ KBn K fd ps 0 ks g gV
section
variable {X : Cx} {CX : CXT} {k j : Nat} {x : Str} {ps ks : List Str} {sp : Sp} {p pos : Pos} {kws : List Keyword} {tk : TA} {gV : List V → List V → List V} {E : XK}
theorem pe_cw (c : Cw X.prog X.w X.K X.mg X.base CX k x ps ks gV sp) (hr : Room j X.A) (hk : k ≤ j) (gl : Gl X x) (px : Passes CX X E) (pk : PK X kws tk)
    (hall : (backToKw pos (keywordEach kws X.env)).all (·.1.isSome) = true := by rfl) (hks : (backToKw pos (keywordEach kws X.env)).filterMap (·.1) = ks := by rfl) (hdb : (x == ("__debug__" : Str)) = false := by decide)
    (hpl : ((backTo pos (starEach [] X.env)).any (·.1) || (backToKw pos (keywordEach kws X.env)).any (·.1.isNone)) = false := by rfl) : PE X (.Call (.Name x p) [] kws pos) (tCallN 0 ks.length sp gV E tNil tk) := by
  obtain ⟨f, fd, g, F, hm, kp, kb⟩ := c.ex
  exact pe_callN0 F (hr.mono hk) gl hm kp kb px pk hall hks hdb hpl
end
/-- one parameter -/
def g1 {α : Type} (us ws : List α) : List α := us ++ ws
end Xkw
set_option Elab.async false
set_option linter.all false
set_option maxRecDepth 100000
set_option maxHeartbeats 4000000
set_option pp.maxSteps 400
set_option pp.deepTerms false
namespace K69
open PySem PySem.Spec PyProof.Rows L2
open Xk Az Xtx Xst
section
variable {P : Program} {w : World} {K : PySem.W.Frag} {mg : Str → Option Value} {base : Heap} {C CL : Addr}
def spLaw (K : PySem.W.Frag) : Sp := fun vs H Q _ => ∃ (a : Addr) (ns : List Int), vs = [.ref a] ∧ SqL K H a (ns.map V.int) ∧ ns.length ≤ 63 ∧ ∀ H', Q (.bl true) H'
theorem ok_law {f : Addr} {fd : FuncData} {e : Ex} {fR : Addr} {fdR : FuncData} (D : Df K mg "law" ["_law_script"] sLaw f fd) (T : Txt K mg C CL e) (cH : Ca P w K mg base 1 "_law_hand" ["_law_script", "_law_k"] (spHand K)) (DR : Df K mg "_law_right" ["_law_hand_here"] sRight fR fdR) (GR : Gn P w K mg base 14 fR fdR ["_law_hand_here"] spRight) : Gn P w K mg base 15 f fd ["_law_script"] (spLaw K) := by
  refine gn_body D.fn scLaw (fun vs H Q E h => ?_) (fun cdv A outer s H vs Q E hg hr h => ?_)
  · obtain ⟨a, ns, rfl, hS, hlen, q⟩ := h
    rfl
  · obtain ⟨a, ns, rfl, hS, hlen, q⟩ := h
    refine ⟨_, (pss_one (ps_ret (pe_callB (cr_all (by rfl)) (by rfl) T.all (by decide +kernel) (pa_cons (pe_lc (own := [("_law_k", 1)]) (g := gName 1) (tt := tYes) (te := tCall spRight [] E0 (tCons (tCall (spHand K) [] E0 (tCons (tVar 0) (tCons (tVar 1) tNil))) tNil)) (by rfl) scLaw.nd (pi_range1 (by rfl) T.range (pa_cons (pe_op op_add pe_int (pe_callB (call_min2 (by rfl)) (by rfl) T.min (by decide +kernel) (pa_cons pe_int (pa_cons (pe_callB call_len_seq (by rfl) T.len PySem.boot_len (pa_cons (pv 0) pa_nil)) pa_nil)))) pa_nil)) (blkOk_by (own := [("_law_k", 1)]) (N := ["_law_script", "_law_k"]) (sc := defScope sLaw) (by decide +kernel)) (fun _ _ _ _ _ => pg_name (i := 1) scLaw.nd rfl (.inl rfl)) (fun _ _ _ _ _ => pts_nil) (fun _ _ _ _ _ => pe_gn GR hg hr (by rfl) DR.mgf DR.fn.kp DR.bd (pa_cons (pe_ca cH hr (by decide) (by rfl) (pa_cons (pv 0) (pa_cons (pv 1) pa_nil))) pa_nil))) pa_nil)))), ?_⟩
    refine ⟨_, rfl, a, _, rfl, .inl hS, 4, _, rfl, _, _, rfl, rfl, _, rfl, ?_, ?_, fun L nL => ?_⟩
    · show -(2 ^ 62) ≤ 2 + (if ((ns.map V.int).length : Int) < 4 then ((ns.map V.int).length : Int) else 4)
      split <;> omega
    · show 2 + (if ((ns.map V.int).length : Int) < 4 then ((ns.map V.int).length : Int) else 4) < 2 ^ 62
      split <;> omega
    refine lc_range (lo := 0) (fun i Hi => L2.Same H Hi ∧ Hi L = some (.lst ((List.replicate i true).map V.bl))) ⟨same_upd nL, upd_same⟩ ?_ ?_
    · rintro i Hi hi ⟨sm, hL⟩
      have hi' : i < 7 := by
        have : i < (2 + (if ((ns.map V.int).length : Int) < 4 then ((ns.map V.int).length : Int) else 4)).toNat := hi
        split at this <;> omega
      refine ⟨rfl, ?_⟩
      unfold tYes
      refine iteT ?_
      refine ⟨_, rfl, _, rfl, a, 0 + (i : Int), ns, rfl, by omega, sm.seq hS, fun p g m' np g0 m0' m1' => ?_⟩
      refine ⟨p, rfl, ⟨g, m', 0, upd_same, g0, m0', m1', Int.le_refl _, Int.le_refl _⟩, fun H' bt => ?_⟩
      have nLp : L ≠ p := ne_of_none hL np
      refine ⟨_, bt L _ nLp (same_upd np _ _ hL), ?_, fun b o e => ?_, ?_⟩
      · rw [List.length_map, List.length_replicate]
        exact Nat.lt_of_le_of_lt (show i ≤ 1000 by omega) (by decide)
      · rw [upd_ne (ne_of_none e nL)]
        have e2 := sm _ _ e
        exact bt _ _ (ne_of_none e2 np) (same_upd np _ _ e2)
      · rw [upd_same, List.replicate_succ', List.map_append]
        rfl
    · rintro He ⟨sm, hL⟩
      refine ⟨L, _, rfl, SqL.of hL, ?_⟩
      rw [show (List.replicate _ true).all id = true from List.all_eq_true.mpr fun b hb => (List.mem_replicate.mp hb).2]
      exact q _
end
end K69
set_option Elab.async false
set_option linter.all false
set_option maxRecDepth 100000
set_option maxHeartbeats 4000000
set_option pp.maxSteps 400
set_option pp.deepTerms false
namespace K69
open PySem PySem.Spec PyProof.Rows L2
open Xk Az Xtx Xst
theorem kit_self {K : PySem.W.Frag} {C : Addr} : PySem.W.kitOne K (.ref C) (.ref C) = some true := by
  unfold PySem.W.kitOne
  simp
theorem kit_in {K : PySem.W.Frag} {t : Value} {c : Addr} {b : Bool} (ic : PySem.W.isClsIn K c = true) (ty : PySem.W.typeIn K (.ref c) = some (.type "type")) (sb : PySem.W.subIn K t (.ref c) = some b) : PySem.W.kitCls K t (.ref c) = some b := by
  have h : ((PySem.W.clsIn K c).isSome && PySem.W.typeIn K (.ref c) == some (.type "type")) = true := by
    rw [show (PySem.W.clsIn K c).isSome = true from ic, ty]
    rfl
  unfold PySem.W.kitCls
  simp only [h, if_true]
  exact sb
theorem kit_no {K : PySem.W.Frag} {a c : Addr} (ic : PySem.W.isClsIn K c = true) (ty : PySem.W.typeIn K (.ref c) = some (.type "type")) (sb : PySem.W.subIn K (.ref a) (.ref c) = some false) (me : PySem.W.subIn K (.ref a) (.ref a) = some true) :
    PySem.W.kitOne K (.ref a) (.ref c) = some false := by
  have ne : ((Value.ref a == Value.ref c) = true) = False := by
    refine propext ⟨fun z => ?_, False.elim⟩
    have z2 : a = c := Value.ref.inj (beq_iff_eq.mp z)
    rw [← z2, me] at sb
    cases sb
  unfold PySem.W.kitOne
  simp only [ne, if_false]
  exact kit_in ic ty sb
theorem kit_yes {K : PySem.W.Frag} {a c : Addr} (ic : PySem.W.isClsIn K c = true) (ty : PySem.W.typeIn K (.ref c) = some (.type "type")) (sb : PySem.W.subIn K (.ref a) (.ref c) = some true) : PySem.W.kitOne K (.ref a) (.ref c) = some true := by
  unfold PySem.W.kitOne
  split
  · rfl
  · exact kit_in ic ty sb
theorem kit_ve {K : PySem.W.Frag} {a : Addr} (sb : PySem.W.subIn K (.ref a) (.type "ValueError") = some true) : PySem.W.kitOne K (.ref a) (.type "ValueError") = some true := by
  have h : PySem.W.kitMeta "ValueError" = true := by decide +kernel
  unfold PySem.W.kitOne PySem.W.kitCls
  split
  · rfl
  · simp only [h, if_true]
    exact sb
theorem kit_skip {K : PySem.W.Frag} {t c : Value} {r : List Value} {b : Bool} (h : PySem.W.kitOne K t c = some false) (hr : PySem.W.kitAny K t r = some b) : PySem.W.kitAny K t (c :: r) = some b := by
  unfold PySem.W.kitAny
  rw [h]
  exact hr
theorem exm_is {K : PySem.W.Frag} {t : Value} {c : Addr} {b : Bool} (ic : PySem.W.isClsIn K c = true) (ty : PySem.W.typeIn K (.ref c) = some (.type "type")) (be : PySem.W.subIn K (.ref c) (.type "BaseException") = some true) (sb : PySem.W.subIn K t (.ref c) = some b) :
    PySem.W.exmOne K t (.ref c) = some b := by
  unfold PySem.W.exmOne
  rw [be, if_pos (by decide)]
  exact kit_in ic ty sb
theorem exm_3 {K : PySem.W.Frag} {t c1 c2 c3 : Value} {b2 b3 : Bool} (h1 : PySem.W.exmOne K t c1 = some true) (h2 : PySem.W.exmOne K t c2 = some b2) (h3 : PySem.W.exmOne K t c3 = some b3) : PySem.W.exmAny K t [c1, c2, c3] = some true := by
  unfold PySem.W.exmAny PySem.W.exmAny PySem.W.exmAny PySem.W.exmAny
  rw [h1, h2, h3]
  rfl
theorem kit_tyB {K : PySem.W.Frag} {a : Addr} {T : String} {b : Bool} (h : PySem.W.kitMeta T = true) (sb : PySem.W.subIn K (.ref a) (.type T) = some b) : PySem.W.kitOne K (.ref a) (.type T) = some b := by
  unfold PySem.W.kitOne PySem.W.kitCls
  split
  · rename_i z
    exact absurd (beq_iff_eq.mp z) (by simp)
  · simp only [h, if_true]
    exact sb
open He Xhd
theorem all_mk {l : PySem.W.OpenLaw} {w : World} {K : PySem.W.Frag} {h : Heap} {mg : Str → Option Value} {fa cDay cLength cListing cNotSuch cLost cTaken cNoCustom cNoDay cNoDisc cNoEntry cNoKey cNoLength cNoLine cNoName cNoNumber cNoPath cSame cStruck cTwice cNoText f0 f1 f2 f3 f4 f5 f6 f7 f8 f9 f10 f11 f12 f13 f14 f15 f16 f17 f18 f19 f20 f21 f22 f23 f24 f25 f26 f27 f28 f29 f30 f31 f32 f33 f34 f35 f36 f37 f38 f39 f40 f41 f42 f43 f44 f45 f46 f47 f48 f49 f50 f51 gMONTH_DAYS gFIELDS : Addr} {fd0 fd1 fd2 fd3 fd4 fd5 fd6 fd7 fd8 fd9 fd10 fd11 fd12 fd13 fd14 fd15 fd16 fd17 fd18 fd19 fd20 fd21 fd22 fd23 fd24 fd25 fd26 fd27 fd28 fd29 fd30 fd31 fd32 fd33 fd34 fd35 fd36 fd37 fd38 fd39 fd40 fd41 fd42 fd43 fd44 fd45 fd46 fd47 fd48 fd49 fd50 fd51 : FuncData}
    (X : K.In h) (G : h.Ns mainGlobals mg) (hfa : mg "law" = some (.ref fa))
    (a_Day : PySem.W.nsIn K mainGlobals "Day" = some (some (.ref cDay)))
    (a_Length : PySem.W.nsIn K mainGlobals "Length" = some (some (.ref cLength)))
    (a_Listing : PySem.W.nsIn K mainGlobals "Listing" = some (some (.ref cListing)))
    (a_NotSuch : PySem.W.nsIn K mainGlobals "NotSuch" = some (some (.ref cNotSuch)))
    (a_Lost : PySem.W.nsIn K mainGlobals "Lost" = some (some (.ref cLost)))
    (a_Taken : PySem.W.nsIn K mainGlobals "Taken" = some (some (.ref cTaken)))
    (a_NoCustom : PySem.W.nsIn K mainGlobals "NoCustom" = some (some (.ref cNoCustom)))
    (a_NoDay : PySem.W.nsIn K mainGlobals "NoDay" = some (some (.ref cNoDay)))
    (a_NoDisc : PySem.W.nsIn K mainGlobals "NoDisc" = some (some (.ref cNoDisc)))
    (a_NoEntry : PySem.W.nsIn K mainGlobals "NoEntry" = some (some (.ref cNoEntry)))
    (a_NoKey : PySem.W.nsIn K mainGlobals "NoKey" = some (some (.ref cNoKey)))
    (a_NoLength : PySem.W.nsIn K mainGlobals "NoLength" = some (some (.ref cNoLength)))
    (a_NoLine : PySem.W.nsIn K mainGlobals "NoLine" = some (some (.ref cNoLine)))
    (a_NoName : PySem.W.nsIn K mainGlobals "NoName" = some (some (.ref cNoName)))
    (a_NoNumber : PySem.W.nsIn K mainGlobals "NoNumber" = some (some (.ref cNoNumber)))
    (a_NoPath : PySem.W.nsIn K mainGlobals "NoPath" = some (some (.ref cNoPath)))
    (a_Same : PySem.W.nsIn K mainGlobals "Same" = some (some (.ref cSame)))
    (a_Struck : PySem.W.nsIn K mainGlobals "Struck" = some (some (.ref cStruck)))
    (a_Twice : PySem.W.nsIn K mainGlobals "Twice" = some (some (.ref cTwice)))
    (a_NoText : PySem.W.nsIn K mainGlobals "NoText" = some (some (.ref cNoText)))
    (a0 : PySem.W.findIn K (.ref cNoText) "__init__" = some (some (.ref f0)))
    (i0 : PySem.W.isFn K (.ref f0) = true)
    (F0 : L2.Fun K "__init__" "NoText.__init__" sNoTextInit f0 fd0)
    (a1 : PySem.W.findIn K (.ref cDay) "__init__" = some (some (.ref f1)))
    (i1 : PySem.W.isFn K (.ref f1) = true)
    (F1 : FunD K "__init__" "Day.__init__" (defArgs sDayInit) (defBody sDayInit) (defScope sDayInit) [.non, .non] [] f1 fd1)
    (a2 : PySem.W.findIn K (.ref cDay) "__str__" = some (some (.ref f2)))
    (i2 : PySem.W.isFn K (.ref f2) = true)
    (F2 : L2.Fun K "__str__" "Day.__str__" sDayStr f2 fd2)
    (a3 : PySem.W.findIn K (.ref cDay) "__repr__" = some (some (.ref f3)))
    (i3 : PySem.W.isFn K (.ref f3) = true)
    (F3 : L2.Fun K "__repr__" "Day.__repr__" sDayRepr f3 fd3)
    (a4 : PySem.W.findIn K (.ref cLength) "__init__" = some (some (.ref f4)))
    (i4 : PySem.W.isFn K (.ref f4) = true)
    (F4 : L2.Fun K "__init__" "Length.__init__" sLengthInit f4 fd4)
    (a5 : PySem.W.findIn K (.ref cLength) "__str__" = some (some (.ref f5)))
    (i5 : PySem.W.isFn K (.ref f5) = true)
    (F5 : L2.Fun K "__str__" "Length.__str__" sLengthStr f5 fd5)
    (a6 : PySem.W.findIn K (.ref cLength) "__repr__" = some (some (.ref f6)))
    (i6 : PySem.W.isFn K (.ref f6) = true)
    (F6 : L2.Fun K "__repr__" "Length.__repr__" sLengthRepr f6 fd6)
    (a7 : PySem.W.findIn K (.ref cListing) "__init__" = some (some (.ref f7)))
    (i7 : PySem.W.isFn K (.ref f7) = true)
    (F7 : FunD K "__init__" "Listing.__init__" (defArgs sListingInit) (defBody sListingInit) (defScope sListingInit) [.non] [] f7 fd7)
    (a8 : PySem.W.findIn K (.ref cListing) "__len__" = some (some (.ref f8)))
    (i8 : PySem.W.isFn K (.ref f8) = true)
    (F8 : L2.Fun K "__len__" "Listing.__len__" sListingLen f8 fd8)
    (a9 : PySem.W.findIn K (.ref cListing) "__eq__" = some (some (.ref f9)))
    (i9 : PySem.W.isFn K (.ref f9) = true)
    (F9 : L2.Fun K "__eq__" "Listing.__eq__" sListingEq f9 fd9)
    (a10 : PySem.W.findIn K (.ref cListing) "entries" = some (some (.ref f10)))
    (i10 : PySem.W.isFn K (.ref f10) = true)
    (F10 : L2.Fun K "entries" "Listing.entries" sListingEntries f10 fd10)
    (a11 : PySem.W.nsIn K mainGlobals "is_whole" = some (some (.ref f11)))
    (F11 : L2.Fun K "is_whole" "is_whole" sIsWhole f11 fd11)
    (a12 : PySem.W.nsIn K mainGlobals "is_within" = some (some (.ref f12)))
    (F12 : L2.Fun K "is_within" "is_within" sIsWithin f12 fd12)
    (a13 : PySem.W.nsIn K mainGlobals "is_leap" = some (some (.ref f13)))
    (F13 : L2.Fun K "is_leap" "is_leap" sIsLeap f13 fd13)
    (a14 : PySem.W.nsIn K mainGlobals "days_in" = some (some (.ref f14)))
    (F14 : L2.Fun K "days_in" "days_in" sDaysIn f14 fd14)
    (a15 : PySem.W.nsIn K mainGlobals "makes_day" = some (some (.ref f15)))
    (F15 : L2.Fun K "makes_day" "makes_day" sMakesDay f15 fd15)
    (a16 : PySem.W.nsIn K mainGlobals "is_text_of" = some (some (.ref f16)))
    (F16 : L2.Fun K "is_text_of" "is_text_of" sIsTextOf f16 fd16)
    (a17 : PySem.W.nsIn K mainGlobals "is_small_text" = some (some (.ref f17)))
    (F17 : L2.Fun K "is_small_text" "is_small_text" sIsSmallText f17 fd17)
    (a18 : PySem.W.nsIn K mainGlobals "is_tongue" = some (some (.ref f18)))
    (F18 : L2.Fun K "is_tongue" "is_tongue" sIsTongue f18 fd18)
    (a19 : PySem.W.nsIn K mainGlobals "is_name_text" = some (some (.ref f19)))
    (F19 : L2.Fun K "is_name_text" "is_name_text" sIsNameText f19 fd19)
    (a20 : PySem.W.nsIn K mainGlobals "is_name" = some (some (.ref f20)))
    (F20 : L2.Fun K "is_name" "is_name" sIsName f20 fd20)
    (a21 : PySem.W.nsIn K mainGlobals "beyond_minutes" = some (some (.ref f21)))
    (F21 : L2.Fun K "beyond_minutes" "beyond_minutes" sBeyondMinutes f21 fd21)
    (a22 : PySem.W.nsIn K mainGlobals "are_figures" = some (some (.ref f22)))
    (F22 : L2.Fun K "are_figures" "are_figures" sAreFigures f22 fd22)
    (a23 : PySem.W.nsIn K mainGlobals "number_in" = some (some (.ref f23)))
    (F23 : L2.Fun K "number_in" "number_in" sNumberIn f23 fd23)
    (a24 : PySem.W.nsIn K mainGlobals "day_in" = some (some (.ref f24)))
    (F24 : L2.Fun K "day_in" "day_in" sDayIn f24 fd24)
    (a25 : PySem.W.nsIn K mainGlobals "length_in" = some (some (.ref f25)))
    (F25 : L2.Fun K "length_in" "length_in" sLengthIn f25 fd25)
    (a26 : PySem.W.nsIn K mainGlobals "name_in" = some (some (.ref f26)))
    (F26 : L2.Fun K "name_in" "name_in" sNameIn f26 fd26)
    (a27 : PySem.W.nsIn K mainGlobals "is_word" = some (some (.ref f27)))
    (F27 : L2.Fun K "is_word" "is_word" sIsWord f27 fd27)
    (a28 : PySem.W.nsIn K mainGlobals "is_key" = some (some (.ref f28)))
    (F28 : L2.Fun K "is_key" "is_key" sIsKey f28 fd28)
    (a29 : PySem.W.nsIn K mainGlobals "key_in" = some (some (.ref f29)))
    (F29 : L2.Fun K "key_in" "key_in" sKeyIn f29 fd29)
    (a30 : PySem.W.nsIn K mainGlobals "entry_in" = some (some (.ref f30)))
    (F30 : L2.Fun K "entry_in" "entry_in" sEntryIn f30 fd30)
    (a31 : PySem.W.nsIn K mainGlobals "all_in" = some (some (.ref f31)))
    (F31 : L2.Fun K "all_in" "all_in" sAllIn f31 fd31)
    (a32 : PySem.W.nsIn K mainGlobals "keys_in" = some (some (.ref f32)))
    (F32 : L2.Fun K "keys_in" "keys_in" sKeysIn f32 fd32)
    (a33 : PySem.W.nsIn K mainGlobals "disc_in" = some (some (.ref f33)))
    (F33 : L2.Fun K "disc_in" "disc_in" sDiscIn f33 fd33)
    (a34 : PySem.W.nsIn K mainGlobals "work_row_in" = some (some (.ref f34)))
    (F34 : L2.Fun K "work_row_in" "work_row_in" sWorkRowIn f34 fd34)
    (a35 : PySem.W.nsIn K mainGlobals "so_written" = some (some (.ref f35)))
    (F35 : FunD K "so_written" "so_written" (defArgs sSoWritten) (defBody sSoWritten) (defScope sSoWritten) [.int 0] [] f35 fd35)
    (a36 : PySem.W.nsIn K mainGlobals "read_day" = some (some (.ref f36)))
    (F36 : L2.Fun K "read_day" "read_day" sReadDay f36 fd36)
    (a37 : PySem.W.nsIn K mainGlobals "read_length" = some (some (.ref f37)))
    (F37 : L2.Fun K "read_length" "read_length" sReadLength f37 fd37)
    (a38 : PySem.W.nsIn K mainGlobals "read_name" = some (some (.ref f38)))
    (F38 : L2.Fun K "read_name" "read_name" sReadName f38 fd38)
    (a39 : PySem.W.nsIn K mainGlobals "read_entry" = some (some (.ref f39)))
    (F39 : L2.Fun K "read_entry" "read_entry" sReadEntry f39 fd39)
    (a40 : PySem.W.nsIn K mainGlobals "read_disc" = some (some (.ref f40)))
    (F40 : L2.Fun K "read_disc" "read_disc" sReadDisc f40 fd40)
    (a41 : PySem.W.nsIn K mainGlobals "read_work" = some (some (.ref f41)))
    (F41 : L2.Fun K "read_work" "read_work" sReadWork f41 fd41)
    (a42 : PySem.W.nsIn K mainGlobals "read_listing" = some (some (.ref f42)))
    (F42 : L2.Fun K "read_listing" "read_listing" sReadListing f42 fd42)
    (a43 : PySem.W.nsIn K mainGlobals "_law_hand" = some (some (.ref f43)))
    (F43 : L2.Fun K "_law_hand" "_law_hand" sHand f43 fd43)
    (a44 : PySem.W.nsIn K mainGlobals "_law_take" = some (some (.ref f44)))
    (F44 : L2.Fun K "_law_take" "_law_take" sTake f44 fd44)
    (a45 : PySem.W.nsIn K mainGlobals "_law_pick" = some (some (.ref f45)))
    (F45 : L2.Fun K "_law_pick" "_law_pick" sPick f45 fd45)
    (a46 : PySem.W.nsIn K mainGlobals "_law_things" = some (some (.ref f46)))
    (F46 : L2.Fun K "_law_things" "_law_things" sThings f46 fd46)
    (a47 : PySem.W.nsIn K mainGlobals "_law_alone" = some (some (.ref f47)))
    (F47 : L2.Fun K "_law_alone" "_law_alone" sAlone f47 fd47)
    (a48 : PySem.W.nsIn K mainGlobals "_law_asked" = some (some (.ref f48)))
    (F48 : L2.Fun K "_law_asked" "_law_asked" sAsked f48 fd48)
    (a49 : PySem.W.nsIn K mainGlobals "_law_read" = some (some (.ref f49)))
    (F49 : L2.Fun K "_law_read" "_law_read" sRead f49 fd49)
    (a50 : PySem.W.nsIn K mainGlobals "_law_right" = some (some (.ref f50)))
    (F50 : L2.Fun K "_law_right" "_law_right" sRight f50 fd50)
    (a51 : PySem.W.nsIn K mainGlobals "law" = some (some (.ref f51)))
    (F51 : L2.Fun K "law" "law" sLaw f51 fd51)
    (g_KEY_PARTS : ∃ t, mg "KEY_PARTS" = some (.int 2 t))
    (g_LONGEST_WORD : ∃ t, mg "LONGEST_WORD" = some (.int 8 t))
    (g_LONGEST_CODE : ∃ t, mg "LONGEST_CODE" = some (.int 12 t))
    (g_MOST_PLAYERS : ∃ t, mg "MOST_PLAYERS" = some (.int 8 t))
    (g_LAST_YEAR : ∃ t, mg "LAST_YEAR" = some (.int 9999 t))
    (g_MONTHS : ∃ t, mg "MONTHS" = some (.int 12 t))
    (g_FEBRUARY : ∃ t, mg "FEBRUARY" = some (.int 2 t))
    (g_MOST_SECONDS : ∃ t, mg "MOST_SECONDS" = some (.int 359999 t))
    (g_SHORTEST_TONGUE : ∃ t, mg "SHORTEST_TONGUE" = some (.int 2 t))
    (g_LONGEST_TONGUE : ∃ t, mg "LONGEST_TONGUE" = some (.int 3 t))
    (g_LONGEST_TEXT : ∃ t, mg "LONGEST_TEXT" = some (.int 40 t))
    (g_MOST_FIGURES : ∃ t, mg "MOST_FIGURES" = some (.int 30 t))
    (g_DAY_PARTS : ∃ t, mg "DAY_PARTS" = some (.int 3 t))
    (g_YEAR_FIGURES : ∃ t, mg "YEAR_FIGURES" = some (.int 4 t))
    (g_SMALL_LETTERS : ∃ t, mg "SMALL_LETTERS" = some (.str "abcdefghijklmnopqrstuvwxyz" t))
    (g_TEXT_SIGNS : ∃ t, mg "TEXT_SIGNS" = some (.str "abcdefghijklmnopqrstuvwxyzABCDEFGHIJKLMNOPQRSTUVWXYZ0123456789 '-." t))
    (g_FIGURES : ∃ t, mg "FIGURES" = some (.str "0123456789" t))
    (g_CODE_SIGNS : ∃ t, mg "CODE_SIGNS" = some (.str "ABCDEFGHIJKLMNOPQRSTUVWXYZ0123456789" t))
    (g_INDENT : ∃ t, mg "INDENT" = some (.str "  " t))
    (g0_MONTH_DAYS : PySem.W.nsIn K mainGlobals "MONTH_DAYS" = some (some (.ref gMONTH_DAYS)))
    (h_MONTH_DAYS : ∀ H, SqT K H gMONTH_DAYS [V.int 31, V.int 28, V.int 31, V.int 30, V.int 31, V.int 30, V.int 31, V.int 31, V.int 30, V.int 31, V.int 30, V.int 31])
    (g0_FIELDS : PySem.W.nsIn K mainGlobals "FIELDS" = some (some (.ref gFIELDS)))
    (h_FIELDS : ∀ H, SqT K H gFIELDS [V.str "code", V.str "title", V.str "players", V.str "day", V.str "length"])
    (ic_NotSuch : PySem.W.isClsIn K cNotSuch = true)
    (ty_NotSuch : PySem.W.typeIn K (.ref cNotSuch) = some (.type "type"))
    (sb_NotSuch : PySem.W.subIn K (.ref cNoText) (.ref cNotSuch) = some true)
    (ic_Lost : PySem.W.isClsIn K cLost = true)
    (ty_Lost : PySem.W.typeIn K (.ref cLost) = some (.type "type"))
    (sb_Lost : PySem.W.subIn K (.ref cNoText) (.ref cLost) = some false)
    (ic_Taken : PySem.W.isClsIn K cTaken = true)
    (ty_Taken : PySem.W.typeIn K (.ref cTaken) = some (.type "type"))
    (sb_Taken : PySem.W.subIn K (.ref cNoText) (.ref cTaken) = some false)
    (ic_NoCustom : PySem.W.isClsIn K cNoCustom = true)
    (ty_NoCustom : PySem.W.typeIn K (.ref cNoCustom) = some (.type "type"))
    (sb_NoCustom : PySem.W.subIn K (.ref cNoText) (.ref cNoCustom) = some false)
    (ic_NoDay : PySem.W.isClsIn K cNoDay = true)
    (ty_NoDay : PySem.W.typeIn K (.ref cNoDay) = some (.type "type"))
    (sb_NoDay : PySem.W.subIn K (.ref cNoText) (.ref cNoDay) = some false)
    (ic_NoDisc : PySem.W.isClsIn K cNoDisc = true)
    (ty_NoDisc : PySem.W.typeIn K (.ref cNoDisc) = some (.type "type"))
    (sb_NoDisc : PySem.W.subIn K (.ref cNoText) (.ref cNoDisc) = some false)
    (ic_NoEntry : PySem.W.isClsIn K cNoEntry = true)
    (ty_NoEntry : PySem.W.typeIn K (.ref cNoEntry) = some (.type "type"))
    (sb_NoEntry : PySem.W.subIn K (.ref cNoText) (.ref cNoEntry) = some false)
    (ic_NoKey : PySem.W.isClsIn K cNoKey = true)
    (ty_NoKey : PySem.W.typeIn K (.ref cNoKey) = some (.type "type"))
    (sb_NoKey : PySem.W.subIn K (.ref cNoText) (.ref cNoKey) = some false)
    (ic_NoLength : PySem.W.isClsIn K cNoLength = true)
    (ty_NoLength : PySem.W.typeIn K (.ref cNoLength) = some (.type "type"))
    (sb_NoLength : PySem.W.subIn K (.ref cNoText) (.ref cNoLength) = some false)
    (ic_NoLine : PySem.W.isClsIn K cNoLine = true)
    (ty_NoLine : PySem.W.typeIn K (.ref cNoLine) = some (.type "type"))
    (sb_NoLine : PySem.W.subIn K (.ref cNoText) (.ref cNoLine) = some false)
    (ic_NoName : PySem.W.isClsIn K cNoName = true)
    (ty_NoName : PySem.W.typeIn K (.ref cNoName) = some (.type "type"))
    (sb_NoName : PySem.W.subIn K (.ref cNoText) (.ref cNoName) = some false)
    (ic_NoNumber : PySem.W.isClsIn K cNoNumber = true)
    (ty_NoNumber : PySem.W.typeIn K (.ref cNoNumber) = some (.type "type"))
    (sb_NoNumber : PySem.W.subIn K (.ref cNoText) (.ref cNoNumber) = some false)
    (ic_NoPath : PySem.W.isClsIn K cNoPath = true)
    (ty_NoPath : PySem.W.typeIn K (.ref cNoPath) = some (.type "type"))
    (sb_NoPath : PySem.W.subIn K (.ref cNoText) (.ref cNoPath) = some false)
    (ic_Same : PySem.W.isClsIn K cSame = true)
    (ty_Same : PySem.W.typeIn K (.ref cSame) = some (.type "type"))
    (sb_Same : PySem.W.subIn K (.ref cNoText) (.ref cSame) = some false)
    (ic_Struck : PySem.W.isClsIn K cStruck = true)
    (ty_Struck : PySem.W.typeIn K (.ref cStruck) = some (.type "type"))
    (sb_Struck : PySem.W.subIn K (.ref cNoText) (.ref cStruck) = some false)
    (ic_Twice : PySem.W.isClsIn K cTwice = true)
    (ty_Twice : PySem.W.typeIn K (.ref cTwice) = some (.type "type"))
    (sb_Twice : PySem.W.subIn K (.ref cNoText) (.ref cTwice) = some false)
    (ic_NoText : PySem.W.isClsIn K cNoText = true)
    (ty_NoText : PySem.W.typeIn K (.ref cNoText) = some (.type "type"))
    (sb_NoText : PySem.W.subIn K (.ref cNoText) (.ref cNoText) = some true)
    (be_NotSuch : PySem.W.subIn K (.ref cNotSuch) (.type "BaseException") = some true)
    (be_Lost : PySem.W.subIn K (.ref cLost) (.type "BaseException") = some true)
    (be_Taken : PySem.W.subIn K (.ref cTaken) (.type "BaseException") = some true)
    (sVE : PySem.W.subIn K (.ref cNoText) (.type "ValueError") = some true)
    (saX : PySem.W.findIn K (.ref cNoText) "__setattr__" = some (some (.builtin "object.__setattr__")))
    (exX : PySem.W.subIn K (.ref cNoText) (.type "BaseException") = some true)
    (kX : PySem.W.keepIn K (.ref cNoText) = true)
    (gaX : PySem.W.findIn K (.ref cNoText) "__getattribute__" = some (some (.builtin "BaseException.__getattribute__")))
    (ggX : PySem.W.findIn K (.ref cNoText) "__getattr__" = some none)
    (hdX : PySem.W.hasDictIn K cNoText = true)
    (haX : PySem.W.findIn K (.ref cNoText) "__class__" = some (some (.builtin "object.__class__")))
    (hmX : PySem.W.mroIn K cNoText (.type "object") = some true)
    (fl1 : PySem.W.findIn K (.ref cNoText) "row" = some none)
    (fl2 : PySem.W.findIn K (.ref cNoText) "wanted" = some none)
    (tyF : PySem.W.typeIn K (.ref f0) = some (.type "function"))
    (rdN : PySem.W.readsIn K cNotSuch (.type "type") = true)
    (spN : PySem.W.specialIn K (.ref cNotSuch) "__getattribute__" = some (some (.builtin "type.__getattribute__")))
    (pg : PySem.W.plainGet K cDay Str.empty = true)
    (hd : PySem.W.hasDictIn K cDay = true)
    (po : PySem.W.plainOver K cDay = true)
    (sa : PySem.W.findIn K (.ref cDay) "__setattr__" = some (some (.builtin "object.__setattr__")))
    (mk : PySem.W.makesIn K cDay = true)
    (kc : PySem.W.keepIn K (.ref cDay) = true)
    (ha : PySem.W.findIn K (.ref cDay) "__class__" = some (some (.builtin "object.__class__")))
    (hm : PySem.W.mroIn K cDay (.type "object") = some true)
    (pgL : PySem.W.plainGet K cLength Str.empty = true)
    (hdL : PySem.W.hasDictIn K cLength = true)
    (poL : PySem.W.plainOver K cLength = true)
    (saL : PySem.W.findIn K (.ref cLength) "__setattr__" = some (some (.builtin "object.__setattr__")))
    (mkL : PySem.W.makesIn K cLength = true)
    (kcL : PySem.W.keepIn K (.ref cLength) = true)
    (haL : PySem.W.findIn K (.ref cLength) "__class__" = some (some (.builtin "object.__class__")))
    (hmL : PySem.W.mroIn K cLength (.type "object") = some true)
    (pgI : PySem.W.plainGet K cListing Str.empty = true)
    (hdI : PySem.W.hasDictIn K cListing = true)
    (poI : PySem.W.plainOver K cListing = true)
    (saI : PySem.W.findIn K (.ref cListing) "__setattr__" = some (some (.builtin "object.__setattr__")))
    (mkI : PySem.W.makesIn K cListing = true)
    (kcI : PySem.W.keepIn K (.ref cListing) = true)
    (haI : PySem.W.findIn K (.ref cListing) "__class__" = some (some (.builtin "object.__class__")))
    (hmI : PySem.W.mroIn K cListing (.type "object") = some true)
    (nY : PySem.W.findIn K (.ref cDay) "year" = some none)
    (nMo : PySem.W.findIn K (.ref cDay) "month" = some none)
    (nD : PySem.W.findIn K (.ref cDay) "day" = some none)
    (nS : PySem.W.findIn K (.ref cLength) "seconds" = some none)
    (nSh : PySem.W.findIn K (.ref cListing) "sheets" = some none)
    (hn : PySem.W.specialIn K (.builtin "object.__class__") "__get__" = some (some (.builtin "getset_descriptor.__get__")))
    (ht : PySem.W.takesIn K (.builtin "object.__class__") = some true)
    (sD : PySem.W.subIn K (.ref cDay) (.type "str") = some false)
    (sL : PySem.W.subIn K (.ref cLength) (.type "str") = some false)
    (oX : XCls PySem.HandSPX.refsVE "ValueError.__new__" cNoText K)
    (fiN : PySem.W.findCls K (.ref cNotSuch) (.type "type") "__init__" = some (.val (.builtin "ValueError.__init__")))
    (z_isinstance : PySem.W.nsIn K mainGlobals "isinstance" = some none)
    (z_int : PySem.W.nsIn K mainGlobals "int" = some none)
    (z_bool : PySem.W.nsIn K mainGlobals "bool" = some none)
    (z_str : PySem.W.nsIn K mainGlobals "str" = some none)
    (z_tuple : PySem.W.nsIn K mainGlobals "tuple" = some none)
    (z_list : PySem.W.nsIn K mainGlobals "list" = some none)
    (z_len : PySem.W.nsIn K mainGlobals "len" = some none)
    (z_all : PySem.W.nsIn K mainGlobals "all" = some none)
    (z_any : PySem.W.nsIn K mainGlobals "any" = some none)
    (z_abs : PySem.W.nsIn K mainGlobals "abs" = some none)
    (z_range : PySem.W.nsIn K mainGlobals "range" = some none)
    (z_repr : PySem.W.nsIn K mainGlobals "repr" = some none)
    (z_max : PySem.W.nsIn K mainGlobals "max" = some none)
    (z_min : PySem.W.nsIn K mainGlobals "min" = some none)
    (z_sorted : PySem.W.nsIn K mainGlobals "sorted" = some none)
    (z_zip : PySem.W.nsIn K mainGlobals "zip" = some none)
    (z_enumerate : PySem.W.nsIn K mainGlobals "enumerate" = some none)
    (z_ValueError : PySem.W.nsIn K mainGlobals "ValueError" = some none)
    (z_divmod : PySem.W.nsIn K mainGlobals "divmod" = some none)
    (oF2 : ∃ o, K.lookup gFIELDS = some o ∧ o.cls = .type "tuple" ∧ o.dict = none)
    : ∃ fd : FuncData, (∀ (s : Shared) (v : Value), BindsTo s fd ⟨[v], []⟩ [("_law_script", v)]) ∧
      ∀ base : Heap, K.In base → base.Ns mainGlobals mg → base.NoDigits → Gn l.prog w K mg base 15 fa fd ["_law_script"] (spLaw K) := by
  have e := hfa.symm.trans (PySem.W.mg_of X G a51)
  cases e
  have FL := F51
  obtain ⟨⟨ocL, odL, kV51, dc51, pm51, an51, cd51, ct51, oslL, eL, lkL, ccL⟩, kpL⟩ := FL
  subst eL
  have B0 := F0.binds (ps := ["self", "row", "wanted"]) fun _ _ _ _ _ _ us hl => match us, hl with | [_, _, _], _ => rfl
  have B2 := F2.binds (ps := ["self"]) fun _ _ _ _ _ _ us hl => match us, hl with | [_], _ => rfl
  have B3 := F3.binds (ps := ["self"]) fun _ _ _ _ _ _ us hl => match us, hl with | [_], _ => rfl
  have B4 := F4.binds (ps := ["self", "seconds"]) fun _ _ _ _ _ _ us hl => match us, hl with | [_, _], _ => rfl
  have B5 := F5.binds (ps := ["self"]) fun _ _ _ _ _ _ us hl => match us, hl with | [_], _ => rfl
  have B6 := F6.binds (ps := ["self"]) fun _ _ _ _ _ _ us hl => match us, hl with | [_], _ => rfl
  have B8 := F8.binds (ps := ["self"]) fun _ _ _ _ _ _ us hl => match us, hl with | [_], _ => rfl
  have B9 := F9.binds (ps := ["self", "other"]) fun _ _ _ _ _ _ us hl => match us, hl with | [_, _], _ => rfl
  have B10 := F10.binds (ps := ["self"]) fun _ _ _ _ _ _ us hl => match us, hl with | [_], _ => rfl
  have D11 : Df K mg "is_whole" ["thing"] sIsWhole f11 _ := ⟨F11, PySem.W.mg_of X G a11, F11.binds (ps := ["thing"]) fun _ _ _ _ _ _ us hl => match us, hl with | [_], _ => rfl⟩
  have D12 : Df K mg "is_within" ["thing", "least", "most"] sIsWithin f12 _ := ⟨F12, PySem.W.mg_of X G a12, F12.binds (ps := ["thing", "least", "most"]) fun _ _ _ _ _ _ us hl => match us, hl with | [_, _, _], _ => rfl⟩
  have D13 : Df K mg "is_leap" ["year"] sIsLeap f13 _ := ⟨F13, PySem.W.mg_of X G a13, F13.binds (ps := ["year"]) fun _ _ _ _ _ _ us hl => match us, hl with | [_], _ => rfl⟩
  have D14 : Df K mg "days_in" ["year", "month"] sDaysIn f14 _ := ⟨F14, PySem.W.mg_of X G a14, F14.binds (ps := ["year", "month"]) fun _ _ _ _ _ _ us hl => match us, hl with | [_, _], _ => rfl⟩
  have D15 : Df K mg "makes_day" ["year", "month", "day"] sMakesDay f15 _ := ⟨F15, PySem.W.mg_of X G a15, F15.binds (ps := ["year", "month", "day"]) fun _ _ _ _ _ _ us hl => match us, hl with | [_, _, _], _ => rfl⟩
  have D16 : Df K mg "is_text_of" ["thing", "signs", "least", "most"] sIsTextOf f16 _ := ⟨F16, PySem.W.mg_of X G a16, F16.binds (ps := ["thing", "signs", "least", "most"]) fun _ _ _ _ _ _ us hl => match us, hl with | [_, _, _, _], _ => rfl⟩
  have D17 : Df K mg "is_small_text" ["thing", "least", "most"] sIsSmallText f17 _ := ⟨F17, PySem.W.mg_of X G a17, F17.binds (ps := ["thing", "least", "most"]) fun _ _ _ _ _ _ us hl => match us, hl with | [_, _, _], _ => rfl⟩
  have D18 : Df K mg "is_tongue" ["thing"] sIsTongue f18 _ := ⟨F18, PySem.W.mg_of X G a18, F18.binds (ps := ["thing"]) fun _ _ _ _ _ _ us hl => match us, hl with | [_], _ => rfl⟩
  have D19 : Df K mg "is_name_text" ["thing"] sIsNameText f19 _ := ⟨F19, PySem.W.mg_of X G a19, F19.binds (ps := ["thing"]) fun _ _ _ _ _ _ us hl => match us, hl with | [_], _ => rfl⟩
  have D20 : Df K mg "is_name" ["thing"] sIsName f20 _ := ⟨F20, PySem.W.mg_of X G a20, F20.binds (ps := ["thing"]) fun _ _ _ _ _ _ us hl => match us, hl with | [_], _ => rfl⟩
  have D21 : Df K mg "beyond_minutes" ["seconds"] sBeyondMinutes f21 _ := ⟨F21, PySem.W.mg_of X G a21, F21.binds (ps := ["seconds"]) fun _ _ _ _ _ _ us hl => match us, hl with | [_], _ => rfl⟩
  have D22 : Df K mg "are_figures" ["text", "least", "most"] sAreFigures f22 _ := ⟨F22, PySem.W.mg_of X G a22, F22.binds (ps := ["text", "least", "most"]) fun _ _ _ _ _ _ us hl => match us, hl with | [_, _, _], _ => rfl⟩
  have D23 : Df K mg "number_in" ["text"] sNumberIn f23 _ := ⟨F23, PySem.W.mg_of X G a23, F23.binds (ps := ["text"]) fun _ _ _ _ _ _ us hl => match us, hl with | [_], _ => rfl⟩
  have D24 : Df K mg "day_in" ["text"] sDayIn f24 _ := ⟨F24, PySem.W.mg_of X G a24, F24.binds (ps := ["text"]) fun _ _ _ _ _ _ us hl => match us, hl with | [_], _ => rfl⟩
  have D25 : Df K mg "length_in" ["text"] sLengthIn f25 _ := ⟨F25, PySem.W.mg_of X G a25, F25.binds (ps := ["text"]) fun _ _ _ _ _ _ us hl => match us, hl with | [_], _ => rfl⟩
  have D26 : Df K mg "name_in" ["text"] sNameIn f26 _ := ⟨F26, PySem.W.mg_of X G a26, F26.binds (ps := ["text"]) fun _ _ _ _ _ _ us hl => match us, hl with | [_], _ => rfl⟩
  have D27 : Df K mg "is_word" ["thing"] sIsWord f27 _ := ⟨F27, PySem.W.mg_of X G a27, F27.binds (ps := ["thing"]) fun _ _ _ _ _ _ us hl => match us, hl with | [_], _ => rfl⟩
  have D28 : Df K mg "is_key" ["thing"] sIsKey f28 _ := ⟨F28, PySem.W.mg_of X G a28, F28.binds (ps := ["thing"]) fun _ _ _ _ _ _ us hl => match us, hl with | [_], _ => rfl⟩
  have D29 : Df K mg "key_in" ["text"] sKeyIn f29 _ := ⟨F29, PySem.W.mg_of X G a29, F29.binds (ps := ["text"]) fun _ _ _ _ _ _ us hl => match us, hl with | [_], _ => rfl⟩
  have D30 : Df K mg "entry_in" ["text"] sEntryIn f30 _ := ⟨F30, PySem.W.mg_of X G a30, F30.binds (ps := ["text"]) fun _ _ _ _ _ _ us hl => match us, hl with | [_], _ => rfl⟩
  have D31 : Df K mg "all_in" ["reader", "text"] sAllIn f31 _ := ⟨F31, PySem.W.mg_of X G a31, F31.binds (ps := ["reader", "text"]) fun _ _ _ _ _ _ us hl => match us, hl with | [_, _], _ => rfl⟩
  have D32 : Df K mg "keys_in" ["text"] sKeysIn f32 _ := ⟨F32, PySem.W.mg_of X G a32, F32.binds (ps := ["text"]) fun _ _ _ _ _ _ us hl => match us, hl with | [_], _ => rfl⟩
  have D33 : Df K mg "disc_in" ["text"] sDiscIn f33 _ := ⟨F33, PySem.W.mg_of X G a33, F33.binds (ps := ["text"]) fun _ _ _ _ _ _ us hl => match us, hl with | [_], _ => rfl⟩
  have D34 : Df K mg "work_row_in" ["text"] sWorkRowIn f34 _ := ⟨F34, PySem.W.mg_of X G a34, F34.binds (ps := ["text"]) fun _ _ _ _ _ _ us hl => match us, hl with | [_], _ => rfl⟩
  have D36 : Df K mg "read_day" ["text"] sReadDay f36 _ := ⟨F36, PySem.W.mg_of X G a36, F36.binds (ps := ["text"]) fun _ _ _ _ _ _ us hl => match us, hl with | [_], _ => rfl⟩
  have D37 : Df K mg "read_length" ["text"] sReadLength f37 _ := ⟨F37, PySem.W.mg_of X G a37, F37.binds (ps := ["text"]) fun _ _ _ _ _ _ us hl => match us, hl with | [_], _ => rfl⟩
  have D38 : Df K mg "read_name" ["text"] sReadName f38 _ := ⟨F38, PySem.W.mg_of X G a38, F38.binds (ps := ["text"]) fun _ _ _ _ _ _ us hl => match us, hl with | [_], _ => rfl⟩
  have D39 : Df K mg "read_entry" ["text"] sReadEntry f39 _ := ⟨F39, PySem.W.mg_of X G a39, F39.binds (ps := ["text"]) fun _ _ _ _ _ _ us hl => match us, hl with | [_], _ => rfl⟩
  have D40 : Df K mg "read_disc" ["text"] sReadDisc f40 _ := ⟨F40, PySem.W.mg_of X G a40, F40.binds (ps := ["text"]) fun _ _ _ _ _ _ us hl => match us, hl with | [_], _ => rfl⟩
  have D41 : Df K mg "read_work" ["text"] sReadWork f41 _ := ⟨F41, PySem.W.mg_of X G a41, F41.binds (ps := ["text"]) fun _ _ _ _ _ _ us hl => match us, hl with | [_], _ => rfl⟩
  have D42 : Df K mg "read_listing" ["text"] sReadListing f42 _ := ⟨F42, PySem.W.mg_of X G a42, F42.binds (ps := ["text"]) fun _ _ _ _ _ _ us hl => match us, hl with | [_], _ => rfl⟩
  have D43 : Df K mg "_law_hand" ["_law_script", "_law_k"] sHand f43 _ := ⟨F43, PySem.W.mg_of X G a43, F43.binds (ps := ["_law_script", "_law_k"]) fun _ _ _ _ _ _ us hl => match us, hl with | [_, _], _ => rfl⟩
  have D44 : Df K mg "_law_take" ["_law_hand_here", "_law_many"] sTake f44 _ := ⟨F44, PySem.W.mg_of X G a44, F44.binds (ps := ["_law_hand_here", "_law_many"]) fun _ _ _ _ _ _ us hl => match us, hl with | [_, _], _ => rfl⟩
  have D45 : Df K mg "_law_pick" ["_law_hand_here", "_law_some"] sPick f45 _ := ⟨F45, PySem.W.mg_of X G a45, F45.binds (ps := ["_law_hand_here", "_law_some"]) fun _ _ _ _ _ _ us hl => match us, hl with | [_, _], _ => rfl⟩
  have D46 : Df K mg "_law_things" ["_law_hand_here"] sThings f46 _ := ⟨F46, PySem.W.mg_of X G a46, F46.binds (ps := ["_law_hand_here"]) fun _ _ _ _ _ _ us hl => match us, hl with | [_], _ => rfl⟩
  have D47 : Df K mg "_law_alone" ["_law_e"] sAlone f47 _ := ⟨F47, PySem.W.mg_of X G a47, F47.binds (ps := ["_law_e"]) fun _ _ _ _ _ _ us hl => match us, hl with | [_], _ => rfl⟩
  have D48 : Df K mg "_law_asked" ["_law_way", "_law_thing"] sAsked f48 _ := ⟨F48, PySem.W.mg_of X G a48, F48.binds (ps := ["_law_way", "_law_thing"]) fun _ _ _ _ _ _ us hl => match us, hl with | [_, _], _ => rfl⟩
  have D49 : Df K mg "_law_read" ["_law_way", "_law_thing"] sRead f49 _ := ⟨F49, PySem.W.mg_of X G a49, F49.binds (ps := ["_law_way", "_law_thing"]) fun _ _ _ _ _ _ us hl => match us, hl with | [_, _], _ => rfl⟩
  have D50 : Df K mg "_law_right" ["_law_hand_here"] sRight f50 _ := ⟨F50, PySem.W.mg_of X G a50, F50.binds (ps := ["_law_hand_here"]) fun _ _ _ _ _ _ us hl => match us, hl with | [_], _ => rfl⟩
  have D51 : Df K mg "law" ["_law_script"] sLaw fa _ := ⟨F51, PySem.W.mg_of X G a51, F51.binds (ps := ["_law_script"]) fun _ _ _ _ _ _ us hl => match us, hl with | [_], _ => rfl⟩
  let e : Ex := ⟨cNotSuch, cLost, cTaken, cNoCustom, cNoDay, cNoDisc, cNoEntry, cNoKey, cNoLength, cNoLine, cNoName, cNoNumber, cNoPath, cSame, cStruck, cTwice, cNoText⟩
  have no : ∀ {c : Addr}, PySem.W.isClsIn K c = true → PySem.W.typeIn K (.ref c) = some (.type "type") → PySem.W.subIn K (.ref cNoText) (.ref c) = some false → PySem.W.kitOne K (.ref cNoText) (.ref c) = some false := fun a b d => kit_no a b d sb_NoText
  have exs : ∀ {c : Addr} {b : Bool}, PySem.W.isClsIn K c = true → PySem.W.typeIn K (.ref c) = some (.type "type") → PySem.W.subIn K (.ref c) (.type "BaseException") = some true → PySem.W.subIn K (.ref cNoText) (.ref c) = some b → PySem.W.exmOne K (.ref cNoText) (.ref c) = some b := fun a b d g => exm_is a b d g
  have T : Txt K mg cDay cLength e := ⟨⟨pg, hd, po, sa⟩,
    nY,
    nMo,
    nD,
    PySem.W.mg_of X G a_Day,
    ⟨pgL, hdL, poL, saL⟩,
    nS,
    PySem.W.mg_of X G a_Length,
    g_INDENT,
    ⟨⟨pg, hd, po, sa⟩, ha, hn, ht, hm, kit_self⟩,
    ⟨⟨pgL, hdL, poL, saL⟩, haL, hn, ht, hmL, kit_self⟩,
    kit_self,
    kit_self,
    g_KEY_PARTS,
    g_LONGEST_WORD,
    g_LONGEST_CODE,
    g_MOST_PLAYERS,
    g_LAST_YEAR,
    g_MONTHS,
    g_FEBRUARY,
    g_MOST_SECONDS,
    g_SHORTEST_TONGUE,
    g_LONGEST_TONGUE,
    g_LONGEST_TEXT,
    g_MOST_FIGURES,
    g_DAY_PARTS,
    g_YEAR_FIGURES,
    g_SMALL_LETTERS,
    g_TEXT_SIGNS,
    g_FIGURES,
    g_CODE_SIGNS,
    ⟨gMONTH_DAYS, PySem.W.mg_of X G g0_MONTH_DAYS, h_MONTH_DAYS⟩,
    ⟨gFIELDS, PySem.W.mg_of X G g0_FIELDS, oF2, h_FIELDS⟩,
    PySem.W.mg_of X G a_NotSuch,
    PySem.W.mg_of X G a_Lost,
    PySem.W.mg_of X G a_Taken,
    PySem.W.mg_of X G a_NoCustom,
    PySem.W.mg_of X G a_NoDay,
    PySem.W.mg_of X G a_NoDisc,
    PySem.W.mg_of X G a_NoEntry,
    PySem.W.mg_of X G a_NoKey,
    PySem.W.mg_of X G a_NoLength,
    PySem.W.mg_of X G a_NoLine,
    PySem.W.mg_of X G a_NoName,
    PySem.W.mg_of X G a_NoNumber,
    PySem.W.mg_of X G a_NoPath,
    PySem.W.mg_of X G a_Same,
    PySem.W.mg_of X G a_Struck,
    PySem.W.mg_of X G a_Twice,
    PySem.W.mg_of X G a_NoText,
    PySem.W.mg_none_of X G z_isinstance,
    PySem.W.mg_none_of X G z_int,
    PySem.W.mg_none_of X G z_bool,
    PySem.W.mg_none_of X G z_str,
    PySem.W.mg_none_of X G z_tuple,
    PySem.W.mg_none_of X G z_list,
    PySem.W.mg_none_of X G z_len,
    PySem.W.mg_none_of X G z_all,
    PySem.W.mg_none_of X G z_any,
    PySem.W.mg_none_of X G z_abs,
    PySem.W.mg_none_of X G z_range,
    PySem.W.mg_none_of X G z_repr,
    PySem.W.mg_none_of X G z_max,
    PySem.W.mg_none_of X G z_min,
    PySem.W.mg_none_of X G z_sorted,
    PySem.W.mg_none_of X G z_zip,
    PySem.W.mg_none_of X G z_enumerate,
    PySem.W.mg_none_of X G z_ValueError,
    PySem.W.mg_none_of X G z_divmod,
    ⟨oX, saX, exX, ty_NoText, kX⟩,
    ⟨ic_NoText, gaX, ggX, exX, hdX, haX, hn, ht, hmX⟩,
    ⟨rdN, spN, fiN⟩,
    fl1,
    fl2,
    exm_3 (exs ic_NotSuch ty_NotSuch be_NotSuch sb_NotSuch) (exs ic_Lost ty_Lost be_Lost sb_Lost) (exs ic_Taken ty_Taken be_Taken sb_Taken),
    kit_skip (no ic_Lost ty_Lost sb_Lost) (kit_skip (no ic_Taken ty_Taken sb_Taken) (kit_skip (no ic_NoCustom ty_NoCustom sb_NoCustom) (kit_skip (no ic_NoDay ty_NoDay sb_NoDay) (kit_skip (no ic_NoDisc ty_NoDisc sb_NoDisc) (kit_skip (no ic_NoEntry ty_NoEntry sb_NoEntry) (kit_skip (no ic_NoKey ty_NoKey sb_NoKey) (kit_skip (no ic_NoLength ty_NoLength sb_NoLength) (rfl)))))))),
    kit_skip (no ic_NoLine ty_NoLine sb_NoLine) (kit_skip (no ic_NoName ty_NoName sb_NoName) (kit_skip (no ic_NoNumber ty_NoNumber sb_NoNumber) (kit_skip (no ic_NoPath ty_NoPath sb_NoPath) (kit_skip (no ic_Same ty_Same sb_Same) (kit_skip (no ic_Struck ty_Struck sb_Struck) (kit_skip (no ic_Twice ty_Twice sb_Twice) (rfl))))))),
    kit_self,
    kit_yes ic_NotSuch ty_NotSuch sb_NotSuch,
    kit_ve sVE⟩
  have Li : LiC K mg cListing := ⟨⟨pgI, hdI, poI, saI⟩, nSh, PySem.W.mg_of X G a_Listing, ⟨⟨pgI, hdI, poI, saI⟩, haI, hn, ht, hmI, kit_self⟩, kit_self⟩
  have NS : NoS K cDay cLength := ⟨kit_tyB (by decide +kernel) sD, kit_tyB (by decide +kernel) sL⟩
  refine ⟨PySem.W.fnOf "law" "law" (defArgs sLaw) (defBody sLaw) (defScope sLaw) .none kV51 dc51 pm51 an51 cd51 ct51, fun s v => .of_eq rfl, fun base kb gb nd => ?g⟩
  case g =>
    have N : Nt l.prog w K mg base e f0 _ := ⟨ok_ntx (P := l.prog) (w := w) (base := base) F0 T, a0, tyF, B0⟩
    have cW := D11.ca (ok_whole (P := l.prog) (w := w) (base := base) D11 T)
    have cI := D12.ca (ok_within D12 cW)
    have cLp := D13.ca (ok_leap (P := l.prog) (w := w) (base := base) D13)
    have cDy := D14.ca (ok_daysIn D14 T cLp)
    have cM := D15.ca (ok_makes D15 T cI cDy)
    have cO := D16.ca (ok_of (P := l.prog) (w := w) (base := base) D16 T)
    have cSm := D17.ca (ok_smallt D17 T cO)
    have cTo := D18.ca (ok_tonguep D18 T cSm)
    have cNt := D19.ca (ok_nmt D19 T cO)
    have cIs := D20.ca (ok_name D20 T cTo cNt)
    have cB := D21.ca (ok_bey (P := l.prog) (w := w) (base := base) D21)
    have G2 : Dc l.prog w K mg base cDay f1 _ := ⟨⟨mk, a1, i1, kc⟩, ok_init F1 T cM, init_binds F1⟩
    have GL : Lc l.prog w K mg base cLength f4 _ := ⟨⟨mkL, a4, i4, kcL⟩, ok_len F4 T cI, B4⟩
    have O : Sh l.prog w K mg base cDay 1 f2 f3 _ _ (spStrD cDay) (spReprD cDay) := ⟨a2, i2, ok_strD F2 T nd, B2, a3, i3, ok_reprD F3 T, B3⟩
    have OL : Sh l.prog w K mg base cLength 2 f5 f6 _ _ (spStrL cLength) (spReprL cLength) := ⟨a5, i5, ok_strL F5 T nd cB, B5, a6, i6, ok_reprL F6 T, B6⟩
    have GI : Lst l.prog w K mg base cListing f7 _ := lst_mk ⟨mkI, a7, i7, kcI⟩ F7 (ok_lini F7 T Li)
    have LS : LsO l.prog w K mg base cListing f9 f8 f10 _ _ _ := ⟨a9, i9, ok_lieq F9 T Li, B9, a8, i8, ok_lile F8 T Li, B8, ⟨a10, i10, F10.kp⟩, ok_lien F10 T Li, B10⟩
    have cFg := D22.ca (ok_fig D22 T cO)
    have cNu := D23.ca (ok_num D23 T cFg)
    have oDy := ok_di D24 T G2 O cFg cM
    have oLn := ok_li D25 T GL OL cFg cNu cI
    have oNm := ok_ni D26 T cIs
    have cWd := D27.ca (ok_word D27 T cSm)
    have cK := D28.ca (ok_keyG D28 T cWd cW)
    have oKi := ok_ki D29 T cNu cK
    have cKi := D29.ca oKi
    have oEi := ok_ei D30 T cKi
    have R_key : FnR l.prog w K mg base CX0 5 f29 spNo := ((oKi).raw D29.bd .nil).imp (fun vs H Q E h => by rw [List.append_nil]; exact ki_no h)
    have cAi := D31.ca (ok_ai D31 T D29.fn.kp R_key)
    have cKsi := D32.ca (ok_ksi D32 T cAi D29.mgf)
    have oDi := ok_di2 D33 T cKsi cWd
    have cNiN : Ca l.prog w K mg base 5 "name_in" ["text"] spNo := D26.ca (fn_imp oNm (fun _ _ _ _ h => ni_no h))
    have oWr := ok_wr D34 T cNiN
    have R_day : FnR l.prog w K mg base CX0 9 f24 spNo := ((oDy.mono (by decide)).raw D24.bd .nil).imp (fun vs H Q E h => by rw [List.append_nil]; exact di_no h)
    have S_day : Sd l.prog w K mg base "day" e f24 f35 _ := sd_mk F35 (PySem.W.mg_of X G a35) (ok_sd F35 T N D24.fn.kp R_day)
    have R_length : FnR l.prog w K mg base CX0 9 f25 spNo := ((oLn.mono (by decide)).raw D25.bd .nil).imp (fun vs H Q E h => by rw [List.append_nil]; exact li_no h)
    have S_length : Sd l.prog w K mg base "length" e f25 f35 _ := sd_mk F35 (PySem.W.mg_of X G a35) (ok_sd F35 T N D25.fn.kp R_length)
    have R_name : FnR l.prog w K mg base CX0 9 f26 spNo := ((oNm.mono (by decide)).raw D26.bd .nil).imp (fun vs H Q E h => by rw [List.append_nil]; exact ni_no h)
    have S_name : Sd l.prog w K mg base "name" e f26 f35 _ := sd_mk F35 (PySem.W.mg_of X G a35) (ok_sd F35 T N D26.fn.kp R_name)
    have R_entry : FnR l.prog w K mg base CX0 9 f30 spNo := ((oEi).raw D30.bd .nil).imp (fun vs H Q E h => by rw [List.append_nil]; exact h)
    have S_entry : Sd l.prog w K mg base "entry" e f30 f35 _ := sd_mk F35 (PySem.W.mg_of X G a35) (ok_sd F35 T N D30.fn.kp R_entry)
    have R_disc : FnR l.prog w K mg base CX0 9 f33 spNo := ((oDi.mono (by decide)).raw D33.bd .nil).imp (fun vs H Q E h => by rw [List.append_nil]; exact h)
    have S_disc : Sd l.prog w K mg base "disc" e f33 f35 _ := sd_mk F35 (PySem.W.mg_of X G a35) (ok_sd F35 T N D33.fn.kp R_disc)
    have R_work : FnR l.prog w K mg base CX0 9 f34 spNo := ((oWr.mono (by decide)).raw D34.bd .nil).imp (fun vs H Q E h => by rw [List.append_nil]; exact h)
    have S_work : Sd l.prog w K mg base "work" e f34 f35 _ := sd_mk F35 (PySem.W.mg_of X G a35) (ok_sd F35 T N D34.fn.kp R_work)
    have c0 := ok_rday D36 T S_day D24.mgf
    have c1 := ok_rlen D37 T S_length D25.mgf
    have c2 := ok_rnam D38 T S_name D26.mgf
    have c3 := ok_rent D39 T S_entry D30.mgf
    have c4 := ok_rdis D40 T S_disc D33.mgf
    have c5 := ok_rwork D41 T N S_work D34.mgf
    have c6 := ok_rlst D42 T Li N GI S_entry D30.mgf
    have c60 := ok_rls0 D42 T Li GI
    have cH := D43.ca (ok_hand (P := l.prog) (w := w) (base := base) D43 T)
    have cT := D44.ca (ok_take (P := l.prog) (w := w) (base := base) D44)
    have cP := D45.ca (ok_pick D45 T cT)
    have cTh := D46.ca (ok_things D46 T cT cP G2 GL)
    have cA := D47.ca (ok_alone (P := l.prog) (w := w) (base := base) D47 T)
    have oR := ok_read D49 T D36 c0 D37 c1 D38 c2 D39 c3 D40 c4 D41 c5 D42 c6
    have cAs := D48.ca (ok_asked D48 T D49 oR cA)
    exact ok_law D51 T cH D50 (ok_right D50 T O OL NS Li GI LS cT cTh cAs D42 c60)
theorem facts {w : World} {K : PySem.W.Frag} {h : Heap} {mg : Str → Option Value} {fa : Addr} (X : K.In h) (G : h.Ns mainGlobals mg) (hfa : mg ("law" : Str) = some (.ref fa)) (c : SaysZ fns dfs tbs exs w K) :
    ∃ fd : FuncData, (∀ (s : Shared) (v : Value), BindsTo s fd ⟨[v], []⟩ [("_law_script", v)]) ∧
      ∀ base : Heap, K.In base → base.Ns mainGlobals mg → base.NoDigits → Gn PySem.Challenge.rw_takesworks_k69_texts_of_anything.prog w K mg base 15 fa fd ["_law_script"] (spLaw K) := by
  obtain ⟨fd0, F0⟩ := c.f 0 (x := "__init__") (q := "NoText.__init__") (st := sNoTextInit) (p := ("NoText", some "__init__")) rfl
  obtain ⟨fd1, F1⟩ := c.d 0 (d := ⟨("Day", some "__init__"), "__init__", "Day.__init__", defArgs sDayInit, defBody sDayInit, defScope sDayInit, [.non, .non], []⟩) rfl
  obtain ⟨fd2, F2⟩ := c.f 1 (x := "__str__") (q := "Day.__str__") (st := sDayStr) (p := ("Day", some "__str__")) rfl
  obtain ⟨fd3, F3⟩ := c.f 2 (x := "__repr__") (q := "Day.__repr__") (st := sDayRepr) (p := ("Day", some "__repr__")) rfl
  obtain ⟨fd4, F4⟩ := c.f 3 (x := "__init__") (q := "Length.__init__") (st := sLengthInit) (p := ("Length", some "__init__")) rfl
  obtain ⟨fd5, F5⟩ := c.f 4 (x := "__str__") (q := "Length.__str__") (st := sLengthStr) (p := ("Length", some "__str__")) rfl
  obtain ⟨fd6, F6⟩ := c.f 5 (x := "__repr__") (q := "Length.__repr__") (st := sLengthRepr) (p := ("Length", some "__repr__")) rfl
  obtain ⟨fd7, F7⟩ := c.d 1 (d := ⟨("Listing", some "__init__"), "__init__", "Listing.__init__", defArgs sListingInit, defBody sListingInit, defScope sListingInit, [.non], []⟩) rfl
  obtain ⟨fd8, F8⟩ := c.f 6 (x := "__len__") (q := "Listing.__len__") (st := sListingLen) (p := ("Listing", some "__len__")) rfl
  obtain ⟨fd9, F9⟩ := c.f 7 (x := "__eq__") (q := "Listing.__eq__") (st := sListingEq) (p := ("Listing", some "__eq__")) rfl
  obtain ⟨fd10, F10⟩ := c.f 8 (x := "entries") (q := "Listing.entries") (st := sListingEntries) (p := ("Listing", some "entries")) rfl
  obtain ⟨fd11, F11⟩ := c.f 9 (x := "is_whole") (q := "is_whole") (st := sIsWhole) (p := ("is_whole", none)) rfl
  obtain ⟨fd12, F12⟩ := c.f 10 (x := "is_within") (q := "is_within") (st := sIsWithin) (p := ("is_within", none)) rfl
  obtain ⟨fd13, F13⟩ := c.f 11 (x := "is_leap") (q := "is_leap") (st := sIsLeap) (p := ("is_leap", none)) rfl
  obtain ⟨fd14, F14⟩ := c.f 12 (x := "days_in") (q := "days_in") (st := sDaysIn) (p := ("days_in", none)) rfl
  obtain ⟨fd15, F15⟩ := c.f 13 (x := "makes_day") (q := "makes_day") (st := sMakesDay) (p := ("makes_day", none)) rfl
  obtain ⟨fd16, F16⟩ := c.f 14 (x := "is_text_of") (q := "is_text_of") (st := sIsTextOf) (p := ("is_text_of", none)) rfl
  obtain ⟨fd17, F17⟩ := c.f 15 (x := "is_small_text") (q := "is_small_text") (st := sIsSmallText) (p := ("is_small_text", none)) rfl
  obtain ⟨fd18, F18⟩ := c.f 16 (x := "is_tongue") (q := "is_tongue") (st := sIsTongue) (p := ("is_tongue", none)) rfl
  obtain ⟨fd19, F19⟩ := c.f 17 (x := "is_name_text") (q := "is_name_text") (st := sIsNameText) (p := ("is_name_text", none)) rfl
  obtain ⟨fd20, F20⟩ := c.f 18 (x := "is_name") (q := "is_name") (st := sIsName) (p := ("is_name", none)) rfl
  obtain ⟨fd21, F21⟩ := c.f 19 (x := "beyond_minutes") (q := "beyond_minutes") (st := sBeyondMinutes) (p := ("beyond_minutes", none)) rfl
  obtain ⟨fd22, F22⟩ := c.f 20 (x := "are_figures") (q := "are_figures") (st := sAreFigures) (p := ("are_figures", none)) rfl
  obtain ⟨fd23, F23⟩ := c.f 21 (x := "number_in") (q := "number_in") (st := sNumberIn) (p := ("number_in", none)) rfl
  obtain ⟨fd24, F24⟩ := c.f 22 (x := "day_in") (q := "day_in") (st := sDayIn) (p := ("day_in", none)) rfl
  obtain ⟨fd25, F25⟩ := c.f 23 (x := "length_in") (q := "length_in") (st := sLengthIn) (p := ("length_in", none)) rfl
  obtain ⟨fd26, F26⟩ := c.f 24 (x := "name_in") (q := "name_in") (st := sNameIn) (p := ("name_in", none)) rfl
  obtain ⟨fd27, F27⟩ := c.f 25 (x := "is_word") (q := "is_word") (st := sIsWord) (p := ("is_word", none)) rfl
  obtain ⟨fd28, F28⟩ := c.f 26 (x := "is_key") (q := "is_key") (st := sIsKey) (p := ("is_key", none)) rfl
  obtain ⟨fd29, F29⟩ := c.f 27 (x := "key_in") (q := "key_in") (st := sKeyIn) (p := ("key_in", none)) rfl
  obtain ⟨fd30, F30⟩ := c.f 28 (x := "entry_in") (q := "entry_in") (st := sEntryIn) (p := ("entry_in", none)) rfl
  obtain ⟨fd31, F31⟩ := c.f 29 (x := "all_in") (q := "all_in") (st := sAllIn) (p := ("all_in", none)) rfl
  obtain ⟨fd32, F32⟩ := c.f 30 (x := "keys_in") (q := "keys_in") (st := sKeysIn) (p := ("keys_in", none)) rfl
  obtain ⟨fd33, F33⟩ := c.f 31 (x := "disc_in") (q := "disc_in") (st := sDiscIn) (p := ("disc_in", none)) rfl
  obtain ⟨fd34, F34⟩ := c.f 32 (x := "work_row_in") (q := "work_row_in") (st := sWorkRowIn) (p := ("work_row_in", none)) rfl
  obtain ⟨fd35, F35⟩ := c.d 2 (d := ⟨("so_written", none), "so_written", "so_written", defArgs sSoWritten, defBody sSoWritten, defScope sSoWritten, [.int 0], []⟩) rfl
  obtain ⟨fd36, F36⟩ := c.f 33 (x := "read_day") (q := "read_day") (st := sReadDay) (p := ("read_day", none)) rfl
  obtain ⟨fd37, F37⟩ := c.f 34 (x := "read_length") (q := "read_length") (st := sReadLength) (p := ("read_length", none)) rfl
  obtain ⟨fd38, F38⟩ := c.f 35 (x := "read_name") (q := "read_name") (st := sReadName) (p := ("read_name", none)) rfl
  obtain ⟨fd39, F39⟩ := c.f 36 (x := "read_entry") (q := "read_entry") (st := sReadEntry) (p := ("read_entry", none)) rfl
  obtain ⟨fd40, F40⟩ := c.f 37 (x := "read_disc") (q := "read_disc") (st := sReadDisc) (p := ("read_disc", none)) rfl
  obtain ⟨fd41, F41⟩ := c.f 38 (x := "read_work") (q := "read_work") (st := sReadWork) (p := ("read_work", none)) rfl
  obtain ⟨fd42, F42⟩ := c.f 39 (x := "read_listing") (q := "read_listing") (st := sReadListing) (p := ("read_listing", none)) rfl
  obtain ⟨fd43, F43⟩ := c.f 40 (x := "_law_hand") (q := "_law_hand") (st := sHand) (p := ("_law_hand", none)) rfl
  obtain ⟨fd44, F44⟩ := c.f 41 (x := "_law_take") (q := "_law_take") (st := sTake) (p := ("_law_take", none)) rfl
  obtain ⟨fd45, F45⟩ := c.f 42 (x := "_law_pick") (q := "_law_pick") (st := sPick) (p := ("_law_pick", none)) rfl
  obtain ⟨fd46, F46⟩ := c.f 43 (x := "_law_things") (q := "_law_things") (st := sThings) (p := ("_law_things", none)) rfl
  obtain ⟨fd47, F47⟩ := c.f 44 (x := "_law_alone") (q := "_law_alone") (st := sAlone) (p := ("_law_alone", none)) rfl
  obtain ⟨fd48, F48⟩ := c.f 45 (x := "_law_asked") (q := "_law_asked") (st := sAsked) (p := ("_law_asked", none)) rfl
  obtain ⟨fd49, F49⟩ := c.f 46 (x := "_law_read") (q := "_law_read") (st := sRead) (p := ("_law_read", none)) rfl
  obtain ⟨fd50, F50⟩ := c.f 47 (x := "_law_right") (q := "_law_right") (st := sRight) (p := ("_law_right", none)) rfl
  obtain ⟨fd51, F51⟩ := c.f 48 (x := "law") (q := "law") (st := sLaw) (p := ("law", none)) rfl
  have a_Day : PySem.W.nsIn K mainGlobals "Day" = some (some (.ref (ga K "Day"))) := by
    have h : x0 K = true := c.x 0 rfl
    exact of_decide_eq_true h
  have a_Length : PySem.W.nsIn K mainGlobals "Length" = some (some (.ref (ga K "Length"))) := by
    have h : x1 K = true := c.x 1 rfl
    exact of_decide_eq_true h
  have a_Listing : PySem.W.nsIn K mainGlobals "Listing" = some (some (.ref (ga K "Listing"))) := by
    have h : x2 K = true := c.x 2 rfl
    exact of_decide_eq_true h
  have a_NotSuch : PySem.W.nsIn K mainGlobals "NotSuch" = some (some (.ref (ga K "NotSuch"))) := by
    have h : x3 K = true := c.x 3 rfl
    exact of_decide_eq_true h
  have a_Lost : PySem.W.nsIn K mainGlobals "Lost" = some (some (.ref (ga K "Lost"))) := by
    have h : x4 K = true := c.x 4 rfl
    exact of_decide_eq_true h
  have a_Taken : PySem.W.nsIn K mainGlobals "Taken" = some (some (.ref (ga K "Taken"))) := by
    have h : x5 K = true := c.x 5 rfl
    exact of_decide_eq_true h
  have a_NoCustom : PySem.W.nsIn K mainGlobals "NoCustom" = some (some (.ref (ga K "NoCustom"))) := by
    have h : x6 K = true := c.x 6 rfl
    exact of_decide_eq_true h
  have a_NoDay : PySem.W.nsIn K mainGlobals "NoDay" = some (some (.ref (ga K "NoDay"))) := by
    have h : x7 K = true := c.x 7 rfl
    exact of_decide_eq_true h
  have a_NoDisc : PySem.W.nsIn K mainGlobals "NoDisc" = some (some (.ref (ga K "NoDisc"))) := by
    have h : x8 K = true := c.x 8 rfl
    exact of_decide_eq_true h
  have a_NoEntry : PySem.W.nsIn K mainGlobals "NoEntry" = some (some (.ref (ga K "NoEntry"))) := by
    have h : x9 K = true := c.x 9 rfl
    exact of_decide_eq_true h
  have a_NoKey : PySem.W.nsIn K mainGlobals "NoKey" = some (some (.ref (ga K "NoKey"))) := by
    have h : x10 K = true := c.x 10 rfl
    exact of_decide_eq_true h
  have a_NoLength : PySem.W.nsIn K mainGlobals "NoLength" = some (some (.ref (ga K "NoLength"))) := by
    have h : x11 K = true := c.x 11 rfl
    exact of_decide_eq_true h
  have a_NoLine : PySem.W.nsIn K mainGlobals "NoLine" = some (some (.ref (ga K "NoLine"))) := by
    have h : x12 K = true := c.x 12 rfl
    exact of_decide_eq_true h
  have a_NoName : PySem.W.nsIn K mainGlobals "NoName" = some (some (.ref (ga K "NoName"))) := by
    have h : x13 K = true := c.x 13 rfl
    exact of_decide_eq_true h
  have a_NoNumber : PySem.W.nsIn K mainGlobals "NoNumber" = some (some (.ref (ga K "NoNumber"))) := by
    have h : x14 K = true := c.x 14 rfl
    exact of_decide_eq_true h
  have a_NoPath : PySem.W.nsIn K mainGlobals "NoPath" = some (some (.ref (ga K "NoPath"))) := by
    have h : x15 K = true := c.x 15 rfl
    exact of_decide_eq_true h
  have a_Same : PySem.W.nsIn K mainGlobals "Same" = some (some (.ref (ga K "Same"))) := by
    have h : x16 K = true := c.x 16 rfl
    exact of_decide_eq_true h
  have a_Struck : PySem.W.nsIn K mainGlobals "Struck" = some (some (.ref (ga K "Struck"))) := by
    have h : x17 K = true := c.x 17 rfl
    exact of_decide_eq_true h
  have a_Twice : PySem.W.nsIn K mainGlobals "Twice" = some (some (.ref (ga K "Twice"))) := by
    have h : x18 K = true := c.x 18 rfl
    exact of_decide_eq_true h
  have a_NoText : PySem.W.nsIn K mainGlobals "NoText" = some (some (.ref (ga K "NoText"))) := by
    have h : x19 K = true := c.x 19 rfl
    exact of_decide_eq_true h
  have a0 : PySem.W.findIn K (.ref (ga K "NoText")) "__init__" = some (some (.ref (ma K (ga K "NoText") "__init__"))) := by
    have h : x20 K = true := c.x 20 rfl
    exact of_decide_eq_true h
  have i0 : PySem.W.isFn K (.ref (ma K (ga K "NoText") "__init__")) = true := by
    have h : x21 K = true := c.x 21 rfl
    exact of_decide_eq_true h
  have a1 : PySem.W.findIn K (.ref (ga K "Day")) "__init__" = some (some (.ref (ma K (ga K "Day") "__init__"))) := by
    have h : x22 K = true := c.x 22 rfl
    exact of_decide_eq_true h
  have i1 : PySem.W.isFn K (.ref (ma K (ga K "Day") "__init__")) = true := by
    have h : x23 K = true := c.x 23 rfl
    exact of_decide_eq_true h
  have a2 : PySem.W.findIn K (.ref (ga K "Day")) "__str__" = some (some (.ref (ma K (ga K "Day") "__str__"))) := by
    have h : x24 K = true := c.x 24 rfl
    exact of_decide_eq_true h
  have i2 : PySem.W.isFn K (.ref (ma K (ga K "Day") "__str__")) = true := by
    have h : x25 K = true := c.x 25 rfl
    exact of_decide_eq_true h
  have a3 : PySem.W.findIn K (.ref (ga K "Day")) "__repr__" = some (some (.ref (ma K (ga K "Day") "__repr__"))) := by
    have h : x26 K = true := c.x 26 rfl
    exact of_decide_eq_true h
  have i3 : PySem.W.isFn K (.ref (ma K (ga K "Day") "__repr__")) = true := by
    have h : x27 K = true := c.x 27 rfl
    exact of_decide_eq_true h
  have a4 : PySem.W.findIn K (.ref (ga K "Length")) "__init__" = some (some (.ref (ma K (ga K "Length") "__init__"))) := by
    have h : x28 K = true := c.x 28 rfl
    exact of_decide_eq_true h
  have i4 : PySem.W.isFn K (.ref (ma K (ga K "Length") "__init__")) = true := by
    have h : x29 K = true := c.x 29 rfl
    exact of_decide_eq_true h
  have a5 : PySem.W.findIn K (.ref (ga K "Length")) "__str__" = some (some (.ref (ma K (ga K "Length") "__str__"))) := by
    have h : x30 K = true := c.x 30 rfl
    exact of_decide_eq_true h
  have i5 : PySem.W.isFn K (.ref (ma K (ga K "Length") "__str__")) = true := by
    have h : x31 K = true := c.x 31 rfl
    exact of_decide_eq_true h
  have a6 : PySem.W.findIn K (.ref (ga K "Length")) "__repr__" = some (some (.ref (ma K (ga K "Length") "__repr__"))) := by
    have h : x32 K = true := c.x 32 rfl
    exact of_decide_eq_true h
  have i6 : PySem.W.isFn K (.ref (ma K (ga K "Length") "__repr__")) = true := by
    have h : x33 K = true := c.x 33 rfl
    exact of_decide_eq_true h
  have a7 : PySem.W.findIn K (.ref (ga K "Listing")) "__init__" = some (some (.ref (ma K (ga K "Listing") "__init__"))) := by
    have h : x34 K = true := c.x 34 rfl
    exact of_decide_eq_true h
  have i7 : PySem.W.isFn K (.ref (ma K (ga K "Listing") "__init__")) = true := by
    have h : x35 K = true := c.x 35 rfl
    exact of_decide_eq_true h
  have a8 : PySem.W.findIn K (.ref (ga K "Listing")) "__len__" = some (some (.ref (ma K (ga K "Listing") "__len__"))) := by
    have h : x36 K = true := c.x 36 rfl
    exact of_decide_eq_true h
  have i8 : PySem.W.isFn K (.ref (ma K (ga K "Listing") "__len__")) = true := by
    have h : x37 K = true := c.x 37 rfl
    exact of_decide_eq_true h
  have a9 : PySem.W.findIn K (.ref (ga K "Listing")) "__eq__" = some (some (.ref (ma K (ga K "Listing") "__eq__"))) := by
    have h : x38 K = true := c.x 38 rfl
    exact of_decide_eq_true h
  have i9 : PySem.W.isFn K (.ref (ma K (ga K "Listing") "__eq__")) = true := by
    have h : x39 K = true := c.x 39 rfl
    exact of_decide_eq_true h
  have a10 : PySem.W.findIn K (.ref (ga K "Listing")) "entries" = some (some (.ref (ma K (ga K "Listing") "entries"))) := by
    have h : x40 K = true := c.x 40 rfl
    exact of_decide_eq_true h
  have i10 : PySem.W.isFn K (.ref (ma K (ga K "Listing") "entries")) = true := by
    have h : x41 K = true := c.x 41 rfl
    exact of_decide_eq_true h
  have a11 : PySem.W.nsIn K mainGlobals "is_whole" = some (some (.ref (ga K "is_whole"))) := by
    have h : x42 K = true := c.x 42 rfl
    exact of_decide_eq_true h
  have a12 : PySem.W.nsIn K mainGlobals "is_within" = some (some (.ref (ga K "is_within"))) := by
    have h : x43 K = true := c.x 43 rfl
    exact of_decide_eq_true h
  have a13 : PySem.W.nsIn K mainGlobals "is_leap" = some (some (.ref (ga K "is_leap"))) := by
    have h : x44 K = true := c.x 44 rfl
    exact of_decide_eq_true h
  have a14 : PySem.W.nsIn K mainGlobals "days_in" = some (some (.ref (ga K "days_in"))) := by
    have h : x45 K = true := c.x 45 rfl
    exact of_decide_eq_true h
  have a15 : PySem.W.nsIn K mainGlobals "makes_day" = some (some (.ref (ga K "makes_day"))) := by
    have h : x46 K = true := c.x 46 rfl
    exact of_decide_eq_true h
  have a16 : PySem.W.nsIn K mainGlobals "is_text_of" = some (some (.ref (ga K "is_text_of"))) := by
    have h : x47 K = true := c.x 47 rfl
    exact of_decide_eq_true h
  have a17 : PySem.W.nsIn K mainGlobals "is_small_text" = some (some (.ref (ga K "is_small_text"))) := by
    have h : x48 K = true := c.x 48 rfl
    exact of_decide_eq_true h
  have a18 : PySem.W.nsIn K mainGlobals "is_tongue" = some (some (.ref (ga K "is_tongue"))) := by
    have h : x49 K = true := c.x 49 rfl
    exact of_decide_eq_true h
  have a19 : PySem.W.nsIn K mainGlobals "is_name_text" = some (some (.ref (ga K "is_name_text"))) := by
    have h : x50 K = true := c.x 50 rfl
    exact of_decide_eq_true h
  have a20 : PySem.W.nsIn K mainGlobals "is_name" = some (some (.ref (ga K "is_name"))) := by
    have h : x51 K = true := c.x 51 rfl
    exact of_decide_eq_true h
  have a21 : PySem.W.nsIn K mainGlobals "beyond_minutes" = some (some (.ref (ga K "beyond_minutes"))) := by
    have h : x52 K = true := c.x 52 rfl
    exact of_decide_eq_true h
  have a22 : PySem.W.nsIn K mainGlobals "are_figures" = some (some (.ref (ga K "are_figures"))) := by
    have h : x53 K = true := c.x 53 rfl
    exact of_decide_eq_true h
  have a23 : PySem.W.nsIn K mainGlobals "number_in" = some (some (.ref (ga K "number_in"))) := by
    have h : x54 K = true := c.x 54 rfl
    exact of_decide_eq_true h
  have a24 : PySem.W.nsIn K mainGlobals "day_in" = some (some (.ref (ga K "day_in"))) := by
    have h : x55 K = true := c.x 55 rfl
    exact of_decide_eq_true h
  have a25 : PySem.W.nsIn K mainGlobals "length_in" = some (some (.ref (ga K "length_in"))) := by
    have h : x56 K = true := c.x 56 rfl
    exact of_decide_eq_true h
  have a26 : PySem.W.nsIn K mainGlobals "name_in" = some (some (.ref (ga K "name_in"))) := by
    have h : x57 K = true := c.x 57 rfl
    exact of_decide_eq_true h
  have a27 : PySem.W.nsIn K mainGlobals "is_word" = some (some (.ref (ga K "is_word"))) := by
    have h : x58 K = true := c.x 58 rfl
    exact of_decide_eq_true h
  have a28 : PySem.W.nsIn K mainGlobals "is_key" = some (some (.ref (ga K "is_key"))) := by
    have h : x59 K = true := c.x 59 rfl
    exact of_decide_eq_true h
  have a29 : PySem.W.nsIn K mainGlobals "key_in" = some (some (.ref (ga K "key_in"))) := by
    have h : x60 K = true := c.x 60 rfl
    exact of_decide_eq_true h
  have a30 : PySem.W.nsIn K mainGlobals "entry_in" = some (some (.ref (ga K "entry_in"))) := by
    have h : x61 K = true := c.x 61 rfl
    exact of_decide_eq_true h
  have a31 : PySem.W.nsIn K mainGlobals "all_in" = some (some (.ref (ga K "all_in"))) := by
    have h : x62 K = true := c.x 62 rfl
    exact of_decide_eq_true h
  have a32 : PySem.W.nsIn K mainGlobals "keys_in" = some (some (.ref (ga K "keys_in"))) := by
    have h : x63 K = true := c.x 63 rfl
    exact of_decide_eq_true h
  have a33 : PySem.W.nsIn K mainGlobals "disc_in" = some (some (.ref (ga K "disc_in"))) := by
    have h : x64 K = true := c.x 64 rfl
    exact of_decide_eq_true h
  have a34 : PySem.W.nsIn K mainGlobals "work_row_in" = some (some (.ref (ga K "work_row_in"))) := by
    have h : x65 K = true := c.x 65 rfl
    exact of_decide_eq_true h
  have a35 : PySem.W.nsIn K mainGlobals "so_written" = some (some (.ref (ga K "so_written"))) := by
    have h : x66 K = true := c.x 66 rfl
    exact of_decide_eq_true h
  have a36 : PySem.W.nsIn K mainGlobals "read_day" = some (some (.ref (ga K "read_day"))) := by
    have h : x67 K = true := c.x 67 rfl
    exact of_decide_eq_true h
  have a37 : PySem.W.nsIn K mainGlobals "read_length" = some (some (.ref (ga K "read_length"))) := by
    have h : x68 K = true := c.x 68 rfl
    exact of_decide_eq_true h
  have a38 : PySem.W.nsIn K mainGlobals "read_name" = some (some (.ref (ga K "read_name"))) := by
    have h : x69 K = true := c.x 69 rfl
    exact of_decide_eq_true h
  have a39 : PySem.W.nsIn K mainGlobals "read_entry" = some (some (.ref (ga K "read_entry"))) := by
    have h : x70 K = true := c.x 70 rfl
    exact of_decide_eq_true h
  have a40 : PySem.W.nsIn K mainGlobals "read_disc" = some (some (.ref (ga K "read_disc"))) := by
    have h : x71 K = true := c.x 71 rfl
    exact of_decide_eq_true h
  have a41 : PySem.W.nsIn K mainGlobals "read_work" = some (some (.ref (ga K "read_work"))) := by
    have h : x72 K = true := c.x 72 rfl
    exact of_decide_eq_true h
  have a42 : PySem.W.nsIn K mainGlobals "read_listing" = some (some (.ref (ga K "read_listing"))) := by
    have h : x73 K = true := c.x 73 rfl
    exact of_decide_eq_true h
  have a43 : PySem.W.nsIn K mainGlobals "_law_hand" = some (some (.ref (ga K "_law_hand"))) := by
    have h : x74 K = true := c.x 74 rfl
    exact of_decide_eq_true h
  have a44 : PySem.W.nsIn K mainGlobals "_law_take" = some (some (.ref (ga K "_law_take"))) := by
    have h : x75 K = true := c.x 75 rfl
    exact of_decide_eq_true h
  have a45 : PySem.W.nsIn K mainGlobals "_law_pick" = some (some (.ref (ga K "_law_pick"))) := by
    have h : x76 K = true := c.x 76 rfl
    exact of_decide_eq_true h
  have a46 : PySem.W.nsIn K mainGlobals "_law_things" = some (some (.ref (ga K "_law_things"))) := by
    have h : x77 K = true := c.x 77 rfl
    exact of_decide_eq_true h
  have a47 : PySem.W.nsIn K mainGlobals "_law_alone" = some (some (.ref (ga K "_law_alone"))) := by
    have h : x78 K = true := c.x 78 rfl
    exact of_decide_eq_true h
  have a48 : PySem.W.nsIn K mainGlobals "_law_asked" = some (some (.ref (ga K "_law_asked"))) := by
    have h : x79 K = true := c.x 79 rfl
    exact of_decide_eq_true h
  have a49 : PySem.W.nsIn K mainGlobals "_law_read" = some (some (.ref (ga K "_law_read"))) := by
    have h : x80 K = true := c.x 80 rfl
    exact of_decide_eq_true h
  have a50 : PySem.W.nsIn K mainGlobals "_law_right" = some (some (.ref (ga K "_law_right"))) := by
    have h : x81 K = true := c.x 81 rfl
    exact of_decide_eq_true h
  have a51 : PySem.W.nsIn K mainGlobals "law" = some (some (.ref (ga K "law"))) := by
    have h : x82 K = true := c.x 82 rfl
    exact of_decide_eq_true h
  have g_KEY_PARTS : ∃ t, mg "KEY_PARTS" = some (.int 2 t) := by
    have h : x83 K = true := c.x 83 rfl
    exact int_ok X G h
  have g_LONGEST_WORD : ∃ t, mg "LONGEST_WORD" = some (.int 8 t) := by
    have h : x84 K = true := c.x 84 rfl
    exact int_ok X G h
  have g_LONGEST_CODE : ∃ t, mg "LONGEST_CODE" = some (.int 12 t) := by
    have h : x85 K = true := c.x 85 rfl
    exact int_ok X G h
  have g_MOST_PLAYERS : ∃ t, mg "MOST_PLAYERS" = some (.int 8 t) := by
    have h : x86 K = true := c.x 86 rfl
    exact int_ok X G h
  have g_LAST_YEAR : ∃ t, mg "LAST_YEAR" = some (.int 9999 t) := by
    have h : x87 K = true := c.x 87 rfl
    exact int_ok X G h
  have g_MONTHS : ∃ t, mg "MONTHS" = some (.int 12 t) := by
    have h : x88 K = true := c.x 88 rfl
    exact int_ok X G h
  have g_FEBRUARY : ∃ t, mg "FEBRUARY" = some (.int 2 t) := by
    have h : x89 K = true := c.x 89 rfl
    exact int_ok X G h
  have g_MOST_SECONDS : ∃ t, mg "MOST_SECONDS" = some (.int 359999 t) := by
    have h : x90 K = true := c.x 90 rfl
    exact int_ok X G h
  have g_SHORTEST_TONGUE : ∃ t, mg "SHORTEST_TONGUE" = some (.int 2 t) := by
    have h : x91 K = true := c.x 91 rfl
    exact int_ok X G h
  have g_LONGEST_TONGUE : ∃ t, mg "LONGEST_TONGUE" = some (.int 3 t) := by
    have h : x92 K = true := c.x 92 rfl
    exact int_ok X G h
  have g_LONGEST_TEXT : ∃ t, mg "LONGEST_TEXT" = some (.int 40 t) := by
    have h : x93 K = true := c.x 93 rfl
    exact int_ok X G h
  have g_MOST_FIGURES : ∃ t, mg "MOST_FIGURES" = some (.int 30 t) := by
    have h : x94 K = true := c.x 94 rfl
    exact int_ok X G h
  have g_DAY_PARTS : ∃ t, mg "DAY_PARTS" = some (.int 3 t) := by
    have h : x95 K = true := c.x 95 rfl
    exact int_ok X G h
  have g_YEAR_FIGURES : ∃ t, mg "YEAR_FIGURES" = some (.int 4 t) := by
    have h : x96 K = true := c.x 96 rfl
    exact int_ok X G h
  have g_SMALL_LETTERS : ∃ t, mg "SMALL_LETTERS" = some (.str "abcdefghijklmnopqrstuvwxyz" t) := by
    have h : x97 K = true := c.x 97 rfl
    exact str_ok X G h
  have g_TEXT_SIGNS : ∃ t, mg "TEXT_SIGNS" = some (.str "abcdefghijklmnopqrstuvwxyzABCDEFGHIJKLMNOPQRSTUVWXYZ0123456789 '-." t) := by
    have h : x98 K = true := c.x 98 rfl
    exact str_ok X G h
  have g_FIGURES : ∃ t, mg "FIGURES" = some (.str "0123456789" t) := by
    have h : x99 K = true := c.x 99 rfl
    exact str_ok X G h
  have g_CODE_SIGNS : ∃ t, mg "CODE_SIGNS" = some (.str "ABCDEFGHIJKLMNOPQRSTUVWXYZ0123456789" t) := by
    have h : x100 K = true := c.x 100 rfl
    exact str_ok X G h
  have g_INDENT : ∃ t, mg "INDENT" = some (.str "  " t) := by
    have h : x101 K = true := c.x 101 rfl
    exact str_ok X G h
  have g0_MONTH_DAYS : PySem.W.nsIn K mainGlobals "MONTH_DAYS" = some (some (.ref (ga K "MONTH_DAYS"))) := by
    have h : x102 K = true := c.x 102 rfl
    exact of_decide_eq_true h
  have h_MONTH_DAYS : ∀ H, SqT K H (ga K "MONTH_DAYS") [V.int 31, V.int 28, V.int 31, V.int 30, V.int 31, V.int 30, V.int 31, V.int 31, V.int 30, V.int 31, V.int 30, V.int 31] := by
    have h : x103 K = true := c.x 103 rfl
    exact fun H => tupB_ok h H
  have g0_FIELDS : PySem.W.nsIn K mainGlobals "FIELDS" = some (some (.ref (ga K "FIELDS"))) := by
    have h : x104 K = true := c.x 104 rfl
    exact of_decide_eq_true h
  have h_FIELDS : ∀ H, SqT K H (ga K "FIELDS") [V.str "code", V.str "title", V.str "players", V.str "day", V.str "length"] := by
    have h : x105 K = true := c.x 105 rfl
    exact fun H => tupB_ok h H
  have ic_NotSuch : PySem.W.isClsIn K (ga K "NotSuch") = true := by
    have h : x106 K = true := c.x 106 rfl
    exact of_decide_eq_true h
  have ty_NotSuch : PySem.W.typeIn K (.ref (ga K "NotSuch")) = some (.type "type") := by
    have h : x107 K = true := c.x 107 rfl
    exact of_decide_eq_true h
  have sb_NotSuch : PySem.W.subIn K (.ref (ga K "NoText")) (.ref (ga K "NotSuch")) = some true := by
    have h : x108 K = true := c.x 108 rfl
    exact of_decide_eq_true h
  have ic_Lost : PySem.W.isClsIn K (ga K "Lost") = true := by
    have h : x109 K = true := c.x 109 rfl
    exact of_decide_eq_true h
  have ty_Lost : PySem.W.typeIn K (.ref (ga K "Lost")) = some (.type "type") := by
    have h : x110 K = true := c.x 110 rfl
    exact of_decide_eq_true h
  have sb_Lost : PySem.W.subIn K (.ref (ga K "NoText")) (.ref (ga K "Lost")) = some false := by
    have h : x111 K = true := c.x 111 rfl
    exact of_decide_eq_true h
  have ic_Taken : PySem.W.isClsIn K (ga K "Taken") = true := by
    have h : x112 K = true := c.x 112 rfl
    exact of_decide_eq_true h
  have ty_Taken : PySem.W.typeIn K (.ref (ga K "Taken")) = some (.type "type") := by
    have h : x113 K = true := c.x 113 rfl
    exact of_decide_eq_true h
  have sb_Taken : PySem.W.subIn K (.ref (ga K "NoText")) (.ref (ga K "Taken")) = some false := by
    have h : x114 K = true := c.x 114 rfl
    exact of_decide_eq_true h
  have ic_NoCustom : PySem.W.isClsIn K (ga K "NoCustom") = true := by
    have h : x115 K = true := c.x 115 rfl
    exact of_decide_eq_true h
  have ty_NoCustom : PySem.W.typeIn K (.ref (ga K "NoCustom")) = some (.type "type") := by
    have h : x116 K = true := c.x 116 rfl
    exact of_decide_eq_true h
  have sb_NoCustom : PySem.W.subIn K (.ref (ga K "NoText")) (.ref (ga K "NoCustom")) = some false := by
    have h : x117 K = true := c.x 117 rfl
    exact of_decide_eq_true h
  have ic_NoDay : PySem.W.isClsIn K (ga K "NoDay") = true := by
    have h : x118 K = true := c.x 118 rfl
    exact of_decide_eq_true h
  have ty_NoDay : PySem.W.typeIn K (.ref (ga K "NoDay")) = some (.type "type") := by
    have h : x119 K = true := c.x 119 rfl
    exact of_decide_eq_true h
  have sb_NoDay : PySem.W.subIn K (.ref (ga K "NoText")) (.ref (ga K "NoDay")) = some false := by
    have h : x120 K = true := c.x 120 rfl
    exact of_decide_eq_true h
  have ic_NoDisc : PySem.W.isClsIn K (ga K "NoDisc") = true := by
    have h : x121 K = true := c.x 121 rfl
    exact of_decide_eq_true h
  have ty_NoDisc : PySem.W.typeIn K (.ref (ga K "NoDisc")) = some (.type "type") := by
    have h : x122 K = true := c.x 122 rfl
    exact of_decide_eq_true h
  have sb_NoDisc : PySem.W.subIn K (.ref (ga K "NoText")) (.ref (ga K "NoDisc")) = some false := by
    have h : x123 K = true := c.x 123 rfl
    exact of_decide_eq_true h
  have ic_NoEntry : PySem.W.isClsIn K (ga K "NoEntry") = true := by
    have h : x124 K = true := c.x 124 rfl
    exact of_decide_eq_true h
  have ty_NoEntry : PySem.W.typeIn K (.ref (ga K "NoEntry")) = some (.type "type") := by
    have h : x125 K = true := c.x 125 rfl
    exact of_decide_eq_true h
  have sb_NoEntry : PySem.W.subIn K (.ref (ga K "NoText")) (.ref (ga K "NoEntry")) = some false := by
    have h : x126 K = true := c.x 126 rfl
    exact of_decide_eq_true h
  have ic_NoKey : PySem.W.isClsIn K (ga K "NoKey") = true := by
    have h : x127 K = true := c.x 127 rfl
    exact of_decide_eq_true h
  have ty_NoKey : PySem.W.typeIn K (.ref (ga K "NoKey")) = some (.type "type") := by
    have h : x128 K = true := c.x 128 rfl
    exact of_decide_eq_true h
  have sb_NoKey : PySem.W.subIn K (.ref (ga K "NoText")) (.ref (ga K "NoKey")) = some false := by
    have h : x129 K = true := c.x 129 rfl
    exact of_decide_eq_true h
  have ic_NoLength : PySem.W.isClsIn K (ga K "NoLength") = true := by
    have h : x130 K = true := c.x 130 rfl
    exact of_decide_eq_true h
  have ty_NoLength : PySem.W.typeIn K (.ref (ga K "NoLength")) = some (.type "type") := by
    have h : x131 K = true := c.x 131 rfl
    exact of_decide_eq_true h
  have sb_NoLength : PySem.W.subIn K (.ref (ga K "NoText")) (.ref (ga K "NoLength")) = some false := by
    have h : x132 K = true := c.x 132 rfl
    exact of_decide_eq_true h
  have ic_NoLine : PySem.W.isClsIn K (ga K "NoLine") = true := by
    have h : x133 K = true := c.x 133 rfl
    exact of_decide_eq_true h
  have ty_NoLine : PySem.W.typeIn K (.ref (ga K "NoLine")) = some (.type "type") := by
    have h : x134 K = true := c.x 134 rfl
    exact of_decide_eq_true h
  have sb_NoLine : PySem.W.subIn K (.ref (ga K "NoText")) (.ref (ga K "NoLine")) = some false := by
    have h : x135 K = true := c.x 135 rfl
    exact of_decide_eq_true h
  have ic_NoName : PySem.W.isClsIn K (ga K "NoName") = true := by
    have h : x136 K = true := c.x 136 rfl
    exact of_decide_eq_true h
  have ty_NoName : PySem.W.typeIn K (.ref (ga K "NoName")) = some (.type "type") := by
    have h : x137 K = true := c.x 137 rfl
    exact of_decide_eq_true h
  have sb_NoName : PySem.W.subIn K (.ref (ga K "NoText")) (.ref (ga K "NoName")) = some false := by
    have h : x138 K = true := c.x 138 rfl
    exact of_decide_eq_true h
  have ic_NoNumber : PySem.W.isClsIn K (ga K "NoNumber") = true := by
    have h : x139 K = true := c.x 139 rfl
    exact of_decide_eq_true h
  have ty_NoNumber : PySem.W.typeIn K (.ref (ga K "NoNumber")) = some (.type "type") := by
    have h : x140 K = true := c.x 140 rfl
    exact of_decide_eq_true h
  have sb_NoNumber : PySem.W.subIn K (.ref (ga K "NoText")) (.ref (ga K "NoNumber")) = some false := by
    have h : x141 K = true := c.x 141 rfl
    exact of_decide_eq_true h
  have ic_NoPath : PySem.W.isClsIn K (ga K "NoPath") = true := by
    have h : x142 K = true := c.x 142 rfl
    exact of_decide_eq_true h
  have ty_NoPath : PySem.W.typeIn K (.ref (ga K "NoPath")) = some (.type "type") := by
    have h : x143 K = true := c.x 143 rfl
    exact of_decide_eq_true h
  have sb_NoPath : PySem.W.subIn K (.ref (ga K "NoText")) (.ref (ga K "NoPath")) = some false := by
    have h : x144 K = true := c.x 144 rfl
    exact of_decide_eq_true h
  have ic_Same : PySem.W.isClsIn K (ga K "Same") = true := by
    have h : x145 K = true := c.x 145 rfl
    exact of_decide_eq_true h
  have ty_Same : PySem.W.typeIn K (.ref (ga K "Same")) = some (.type "type") := by
    have h : x146 K = true := c.x 146 rfl
    exact of_decide_eq_true h
  have sb_Same : PySem.W.subIn K (.ref (ga K "NoText")) (.ref (ga K "Same")) = some false := by
    have h : x147 K = true := c.x 147 rfl
    exact of_decide_eq_true h
  have ic_Struck : PySem.W.isClsIn K (ga K "Struck") = true := by
    have h : x148 K = true := c.x 148 rfl
    exact of_decide_eq_true h
  have ty_Struck : PySem.W.typeIn K (.ref (ga K "Struck")) = some (.type "type") := by
    have h : x149 K = true := c.x 149 rfl
    exact of_decide_eq_true h
  have sb_Struck : PySem.W.subIn K (.ref (ga K "NoText")) (.ref (ga K "Struck")) = some false := by
    have h : x150 K = true := c.x 150 rfl
    exact of_decide_eq_true h
  have ic_Twice : PySem.W.isClsIn K (ga K "Twice") = true := by
    have h : x151 K = true := c.x 151 rfl
    exact of_decide_eq_true h
  have ty_Twice : PySem.W.typeIn K (.ref (ga K "Twice")) = some (.type "type") := by
    have h : x152 K = true := c.x 152 rfl
    exact of_decide_eq_true h
  have sb_Twice : PySem.W.subIn K (.ref (ga K "NoText")) (.ref (ga K "Twice")) = some false := by
    have h : x153 K = true := c.x 153 rfl
    exact of_decide_eq_true h
  have ic_NoText : PySem.W.isClsIn K (ga K "NoText") = true := by
    have h : x154 K = true := c.x 154 rfl
    exact of_decide_eq_true h
  have ty_NoText : PySem.W.typeIn K (.ref (ga K "NoText")) = some (.type "type") := by
    have h : x155 K = true := c.x 155 rfl
    exact of_decide_eq_true h
  have sb_NoText : PySem.W.subIn K (.ref (ga K "NoText")) (.ref (ga K "NoText")) = some true := by
    have h : x156 K = true := c.x 156 rfl
    exact of_decide_eq_true h
  have be_NotSuch : PySem.W.subIn K (.ref (ga K "NotSuch")) (.type "BaseException") = some true := by
    have h : x157 K = true := c.x 157 rfl
    exact of_decide_eq_true h
  have be_Lost : PySem.W.subIn K (.ref (ga K "Lost")) (.type "BaseException") = some true := by
    have h : x158 K = true := c.x 158 rfl
    exact of_decide_eq_true h
  have be_Taken : PySem.W.subIn K (.ref (ga K "Taken")) (.type "BaseException") = some true := by
    have h : x159 K = true := c.x 159 rfl
    exact of_decide_eq_true h
  have sVE : PySem.W.subIn K (.ref (ga K "NoText")) (.type "ValueError") = some true := by
    have h : x160 K = true := c.x 160 rfl
    exact of_decide_eq_true h
  have saX : PySem.W.findIn K (.ref (ga K "NoText")) "__setattr__" = some (some (.builtin "object.__setattr__")) := by
    have h : x161 K = true := c.x 161 rfl
    exact of_decide_eq_true h
  have exX : PySem.W.subIn K (.ref (ga K "NoText")) (.type "BaseException") = some true := by
    have h : x162 K = true := c.x 162 rfl
    exact of_decide_eq_true h
  have kX : PySem.W.keepIn K (.ref (ga K "NoText")) = true := by
    have h : x163 K = true := c.x 163 rfl
    exact of_decide_eq_true h
  have gaX : PySem.W.findIn K (.ref (ga K "NoText")) "__getattribute__" = some (some (.builtin "BaseException.__getattribute__")) := by
    have h : x164 K = true := c.x 164 rfl
    exact of_decide_eq_true h
  have ggX : PySem.W.findIn K (.ref (ga K "NoText")) "__getattr__" = some none := by
    have h : x165 K = true := c.x 165 rfl
    exact of_decide_eq_true h
  have hdX : PySem.W.hasDictIn K (ga K "NoText") = true := by
    have h : x166 K = true := c.x 166 rfl
    exact of_decide_eq_true h
  have haX : PySem.W.findIn K (.ref (ga K "NoText")) "__class__" = some (some (.builtin "object.__class__")) := by
    have h : x167 K = true := c.x 167 rfl
    exact of_decide_eq_true h
  have hmX : PySem.W.mroIn K (ga K "NoText") (.type "object") = some true := by
    have h : x168 K = true := c.x 168 rfl
    exact of_decide_eq_true h
  have fl1 : PySem.W.findIn K (.ref (ga K "NoText")) "row" = some none := by
    have h : x169 K = true := c.x 169 rfl
    exact of_decide_eq_true h
  have fl2 : PySem.W.findIn K (.ref (ga K "NoText")) "wanted" = some none := by
    have h : x170 K = true := c.x 170 rfl
    exact of_decide_eq_true h
  have tyF : PySem.W.typeIn K (.ref (ma K (ga K "NoText") "__init__")) = some (.type "function") := by
    have h : x171 K = true := c.x 171 rfl
    exact of_decide_eq_true h
  have rdN : PySem.W.readsIn K (ga K "NotSuch") (.type "type") = true := by
    have h : x172 K = true := c.x 172 rfl
    exact of_decide_eq_true h
  have spN : PySem.W.specialIn K (.ref (ga K "NotSuch")) "__getattribute__" = some (some (.builtin "type.__getattribute__")) := by
    have h : x173 K = true := c.x 173 rfl
    exact of_decide_eq_true h
  have pg : PySem.W.plainGet K (ga K "Day") Str.empty = true := by
    have h : x174 K = true := c.x 174 rfl
    exact of_decide_eq_true h
  have hd : PySem.W.hasDictIn K (ga K "Day") = true := by
    have h : x175 K = true := c.x 175 rfl
    exact of_decide_eq_true h
  have po : PySem.W.plainOver K (ga K "Day") = true := by
    have h : x176 K = true := c.x 176 rfl
    exact of_decide_eq_true h
  have sa : PySem.W.findIn K (.ref (ga K "Day")) "__setattr__" = some (some (.builtin "object.__setattr__")) := by
    have h : x177 K = true := c.x 177 rfl
    exact of_decide_eq_true h
  have mk : PySem.W.makesIn K (ga K "Day") = true := by
    have h : x178 K = true := c.x 178 rfl
    exact of_decide_eq_true h
  have kc : PySem.W.keepIn K (.ref (ga K "Day")) = true := by
    have h : x179 K = true := c.x 179 rfl
    exact of_decide_eq_true h
  have ha : PySem.W.findIn K (.ref (ga K "Day")) "__class__" = some (some (.builtin "object.__class__")) := by
    have h : x180 K = true := c.x 180 rfl
    exact of_decide_eq_true h
  have hm : PySem.W.mroIn K (ga K "Day") (.type "object") = some true := by
    have h : x181 K = true := c.x 181 rfl
    exact of_decide_eq_true h
  have pgL : PySem.W.plainGet K (ga K "Length") Str.empty = true := by
    have h : x182 K = true := c.x 182 rfl
    exact of_decide_eq_true h
  have hdL : PySem.W.hasDictIn K (ga K "Length") = true := by
    have h : x183 K = true := c.x 183 rfl
    exact of_decide_eq_true h
  have poL : PySem.W.plainOver K (ga K "Length") = true := by
    have h : x184 K = true := c.x 184 rfl
    exact of_decide_eq_true h
  have saL : PySem.W.findIn K (.ref (ga K "Length")) "__setattr__" = some (some (.builtin "object.__setattr__")) := by
    have h : x185 K = true := c.x 185 rfl
    exact of_decide_eq_true h
  have mkL : PySem.W.makesIn K (ga K "Length") = true := by
    have h : x186 K = true := c.x 186 rfl
    exact of_decide_eq_true h
  have kcL : PySem.W.keepIn K (.ref (ga K "Length")) = true := by
    have h : x187 K = true := c.x 187 rfl
    exact of_decide_eq_true h
  have haL : PySem.W.findIn K (.ref (ga K "Length")) "__class__" = some (some (.builtin "object.__class__")) := by
    have h : x188 K = true := c.x 188 rfl
    exact of_decide_eq_true h
  have hmL : PySem.W.mroIn K (ga K "Length") (.type "object") = some true := by
    have h : x189 K = true := c.x 189 rfl
    exact of_decide_eq_true h
  have pgI : PySem.W.plainGet K (ga K "Listing") Str.empty = true := by
    have h : x190 K = true := c.x 190 rfl
    exact of_decide_eq_true h
  have hdI : PySem.W.hasDictIn K (ga K "Listing") = true := by
    have h : x191 K = true := c.x 191 rfl
    exact of_decide_eq_true h
  have poI : PySem.W.plainOver K (ga K "Listing") = true := by
    have h : x192 K = true := c.x 192 rfl
    exact of_decide_eq_true h
  have saI : PySem.W.findIn K (.ref (ga K "Listing")) "__setattr__" = some (some (.builtin "object.__setattr__")) := by
    have h : x193 K = true := c.x 193 rfl
    exact of_decide_eq_true h
  have mkI : PySem.W.makesIn K (ga K "Listing") = true := by
    have h : x194 K = true := c.x 194 rfl
    exact of_decide_eq_true h
  have kcI : PySem.W.keepIn K (.ref (ga K "Listing")) = true := by
    have h : x195 K = true := c.x 195 rfl
    exact of_decide_eq_true h
  have haI : PySem.W.findIn K (.ref (ga K "Listing")) "__class__" = some (some (.builtin "object.__class__")) := by
    have h : x196 K = true := c.x 196 rfl
    exact of_decide_eq_true h
  have hmI : PySem.W.mroIn K (ga K "Listing") (.type "object") = some true := by
    have h : x197 K = true := c.x 197 rfl
    exact of_decide_eq_true h
  have nY : PySem.W.findIn K (.ref (ga K "Day")) "year" = some none := by
    have h : x198 K = true := c.x 198 rfl
    exact of_decide_eq_true h
  have nMo : PySem.W.findIn K (.ref (ga K "Day")) "month" = some none := by
    have h : x199 K = true := c.x 199 rfl
    exact of_decide_eq_true h
  have nD : PySem.W.findIn K (.ref (ga K "Day")) "day" = some none := by
    have h : x200 K = true := c.x 200 rfl
    exact of_decide_eq_true h
  have nS : PySem.W.findIn K (.ref (ga K "Length")) "seconds" = some none := by
    have h : x201 K = true := c.x 201 rfl
    exact of_decide_eq_true h
  have nSh : PySem.W.findIn K (.ref (ga K "Listing")) "sheets" = some none := by
    have h : x202 K = true := c.x 202 rfl
    exact of_decide_eq_true h
  have hn : PySem.W.specialIn K (.builtin "object.__class__") "__get__" = some (some (.builtin "getset_descriptor.__get__")) := by
    have h : x203 K = true := c.x 203 rfl
    exact of_decide_eq_true h
  have ht : PySem.W.takesIn K (.builtin "object.__class__") = some true := by
    have h : x204 K = true := c.x 204 rfl
    exact of_decide_eq_true h
  have sD : PySem.W.subIn K (.ref (ga K "Day")) (.type "str") = some false := by
    have h : x205 K = true := c.x 205 rfl
    exact of_decide_eq_true h
  have sL : PySem.W.subIn K (.ref (ga K "Length")) (.type "str") = some false := by
    have h : x206 K = true := c.x 206 rfl
    exact of_decide_eq_true h
  have oX : XCls PySem.HandSPX.refsVE "ValueError.__new__" (ga K "NoText") K := by
    have h : x207 K = true := c.x 207 rfl
    exact xcls_of h
  have fiN : PySem.W.findCls K (.ref (ga K "NotSuch")) (.type "type") "__init__" = some (.val (.builtin "ValueError.__init__")) := by
    have h : x208 K = true := c.x 208 rfl
    exact fc_of h
  have oF : ocB (ga K "FIELDS") "tuple" K = true := by
    have h : x209 K = true := c.x 209 rfl
    exact h
  have z_isinstance : PySem.W.nsIn K mainGlobals "isinstance" = some none := by
    have h : x210 K = true := c.x 210 rfl
    exact of_decide_eq_true h
  have z_int : PySem.W.nsIn K mainGlobals "int" = some none := by
    have h : x211 K = true := c.x 211 rfl
    exact of_decide_eq_true h
  have z_bool : PySem.W.nsIn K mainGlobals "bool" = some none := by
    have h : x212 K = true := c.x 212 rfl
    exact of_decide_eq_true h
  have z_str : PySem.W.nsIn K mainGlobals "str" = some none := by
    have h : x213 K = true := c.x 213 rfl
    exact of_decide_eq_true h
  have z_tuple : PySem.W.nsIn K mainGlobals "tuple" = some none := by
    have h : x214 K = true := c.x 214 rfl
    exact of_decide_eq_true h
  have z_list : PySem.W.nsIn K mainGlobals "list" = some none := by
    have h : x215 K = true := c.x 215 rfl
    exact of_decide_eq_true h
  have z_len : PySem.W.nsIn K mainGlobals "len" = some none := by
    have h : x216 K = true := c.x 216 rfl
    exact of_decide_eq_true h
  have z_all : PySem.W.nsIn K mainGlobals "all" = some none := by
    have h : x217 K = true := c.x 217 rfl
    exact of_decide_eq_true h
  have z_any : PySem.W.nsIn K mainGlobals "any" = some none := by
    have h : x218 K = true := c.x 218 rfl
    exact of_decide_eq_true h
  have z_abs : PySem.W.nsIn K mainGlobals "abs" = some none := by
    have h : x219 K = true := c.x 219 rfl
    exact of_decide_eq_true h
  have z_range : PySem.W.nsIn K mainGlobals "range" = some none := by
    have h : x220 K = true := c.x 220 rfl
    exact of_decide_eq_true h
  have z_repr : PySem.W.nsIn K mainGlobals "repr" = some none := by
    have h : x221 K = true := c.x 221 rfl
    exact of_decide_eq_true h
  have z_max : PySem.W.nsIn K mainGlobals "max" = some none := by
    have h : x222 K = true := c.x 222 rfl
    exact of_decide_eq_true h
  have z_min : PySem.W.nsIn K mainGlobals "min" = some none := by
    have h : x223 K = true := c.x 223 rfl
    exact of_decide_eq_true h
  have z_sorted : PySem.W.nsIn K mainGlobals "sorted" = some none := by
    have h : x224 K = true := c.x 224 rfl
    exact of_decide_eq_true h
  have z_zip : PySem.W.nsIn K mainGlobals "zip" = some none := by
    have h : x225 K = true := c.x 225 rfl
    exact of_decide_eq_true h
  have z_enumerate : PySem.W.nsIn K mainGlobals "enumerate" = some none := by
    have h : x226 K = true := c.x 226 rfl
    exact of_decide_eq_true h
  have z_ValueError : PySem.W.nsIn K mainGlobals "ValueError" = some none := by
    have h : x227 K = true := c.x 227 rfl
    exact of_decide_eq_true h
  have z_divmod : PySem.W.nsIn K mainGlobals "divmod" = some none := by
    have h : x228 K = true := c.x 228 rfl
    exact of_decide_eq_true h
  have oF2 : ∃ o, K.lookup (ga K "FIELDS") = some o ∧ o.cls = .type "tuple" ∧ o.dict = none := ocB_ok oF
  exact all_mk X G hfa a_Day a_Length a_Listing a_NotSuch a_Lost a_Taken a_NoCustom a_NoDay a_NoDisc a_NoEntry a_NoKey a_NoLength a_NoLine a_NoName a_NoNumber a_NoPath a_Same a_Struck a_Twice a_NoText a0 i0 F0 a1 i1 F1 a2 i2 F2 a3 i3 F3 a4 i4 F4 a5 i5 F5 a6 i6 F6 a7 i7 F7 a8 i8 F8 a9 i9 F9 a10 i10 F10 a11 F11 a12 F12 a13 F13 a14 F14 a15 F15 a16 F16 a17 F17 a18 F18 a19 F19 a20 F20 a21 F21 a22 F22 a23 F23 a24 F24 a25 F25 a26 F26 a27 F27 a28 F28 a29 F29 a30 F30 a31 F31 a32 F32 a33 F33 a34 F34 a35 F35 a36 F36 a37 F37 a38 F38 a39 F39 a40 F40 a41 F41 a42 F42 a43 F43 a44 F44 a45 F45 a46 F46 a47 F47 a48 F48 a49 F49 a50 F50 a51 F51 g_KEY_PARTS g_LONGEST_WORD g_LONGEST_CODE g_MOST_PLAYERS g_LAST_YEAR g_MONTHS g_FEBRUARY g_MOST_SECONDS g_SHORTEST_TONGUE g_LONGEST_TONGUE g_LONGEST_TEXT g_MOST_FIGURES g_DAY_PARTS g_YEAR_FIGURES g_SMALL_LETTERS g_TEXT_SIGNS g_FIGURES g_CODE_SIGNS g_INDENT g0_MONTH_DAYS h_MONTH_DAYS g0_FIELDS h_FIELDS ic_NotSuch ty_NotSuch sb_NotSuch ic_Lost ty_Lost sb_Lost ic_Taken ty_Taken sb_Taken ic_NoCustom ty_NoCustom sb_NoCustom ic_NoDay ty_NoDay sb_NoDay ic_NoDisc ty_NoDisc sb_NoDisc ic_NoEntry ty_NoEntry sb_NoEntry ic_NoKey ty_NoKey sb_NoKey ic_NoLength ty_NoLength sb_NoLength ic_NoLine ty_NoLine sb_NoLine ic_NoName ty_NoName sb_NoName ic_NoNumber ty_NoNumber sb_NoNumber ic_NoPath ty_NoPath sb_NoPath ic_Same ty_Same sb_Same ic_Struck ty_Struck sb_Struck ic_Twice ty_Twice sb_Twice ic_NoText ty_NoText sb_NoText be_NotSuch be_Lost be_Taken sVE saX exX kX gaX ggX hdX haX hmX fl1 fl2 tyF rdN spN pg hd po sa mk kc ha hm pgL hdL poL saL mkL kcL haL hmL pgI hdI poI saI mkI kcI haI hmI nY nMo nD nS nSh hn ht sD sL oX fiN z_isinstance z_int z_bool z_str z_tuple z_list z_len z_all z_any z_abs z_range z_repr z_max z_min z_sorted z_zip z_enumerate z_ValueError z_divmod oF2
theorem walk_goE {l : PySem.W.OpenLaw} {n k : Nat} {q : Program} {loose : List Str} {XP : (Str → Option Value) → Heap → Prop} {YP : World → Heap → Prop} {d : DefRec} {sp : PySem.W.Frag → Sp} {x : Str}
    (most : l.most = some n) (small : n ≤ sizeLine) (nodef : d.params.defaults = []) (room : Room k callerA)
    (F : ∀ (w : World) (mg : Str → Option Value) (fa : Addr) (h : Heap), YP w h → h.Ns mainGlobals mg → mg d.name = some (.ref fa) →
      ∃ (K : PySem.W.Frag) (fd : FuncData), K.In h ∧ (∀ (s : Shared) (u : Value), BindsTo s fd ⟨[u], []⟩ [(x, u)]) ∧ ∀ base : Heap, K.In base → base.Ns mainGlobals mg → base.NoDigits → Gn l.prog w K mg base k fa fd [x] (sp K))
    (hsp : ∀ (K : PySem.W.Frag) (H : Hp) (a : Addr) (ns : List Int), ns.length ≤ n → SqL K H a (ns.map V.int) → sp K [.ref a] H (fun v _ => v = .bl true) fun _ _ _ => False) :
    PySem.W.WalkO q loose XP YP l.row.toRowW d [] (fun f vs => PySem.call f vs) := by
  refine Att.attach_call most nodef fun w s₀ s₁ mg mb fa o pm cd doc a vs ns G Y _ _ _ hmg hobj hints hlen hg => ?_
  obtain ⟨K, fd, kin, hb, hF⟩ := F w mg fa _ Y G.T.g hmg
  exact law_go kin G.T.g G.T.b G.T.builtins G.T.nolimit G.T.nodigits hg hobj hints (Nat.le_trans hlen small) room hF hb fun H hS => hsp _ H a ns hlen hS
end K69
open PySem PySem.W PySem.Calls PyProof.Rows
set_option maxHeartbeats 0 in
theorem PySem.Challenge.cw_takesworks_k69_texts_of_anything_holds : PySem.Challenge.rw_takesworks_k69_texts_of_anything.Holds := by
  w_on; o_law
  refine HandSHeadRun.head_any (r := OpenLaw.row PySem.Challenge.rw_takesworks_k69_texts_of_anything) (q := view (OpenLaw.row PySem.Challenge.rw_takesworks_k69_texts_of_anything).prog [120]) (H := K69.hk) (ob := K69.ob) (M := 40000) (loose := K69.names) (d := HandSHeadRun.topDef (OpenLaw.row PySem.Challenge.rw_takesworks_k69_texts_of_anything).prog 120) (kwd := []) K69.ob_eq
    (by kernel_rfl) (fun s => by kernel_rfl) K69.run (by kernel_rfl) (by kernel_rfl) (by kernel_rfl) (by rfl) (by first | assumption | decide +kernel) (by decide +kernel) ⟨rfl, rfl, rfl, rfl, rfl, by decide +kernel⟩ ?hw ?hc
  case hw => w_witness2
  case hc =>
    refine K69.walk_goE (l := PySem.Challenge.rw_takesworks_k69_texts_of_anything) (n := 63) (k := 15) (x := "_law_script") (sp := fun K => K69.spLaw K) rfl (by decide) (by kernel_rfl) ⟨rfl, by decide, by decide⟩ ?F (fun _ _ a ns hl hS => ⟨a, ns, rfl, hS, hl, fun _ => rfl⟩)
    intro w mg fa h Y G hmg0
    obtain ⟨K, KX, c⟩ := Y
    have hmg : mg ("law" : PySem.Str) = some (.ref fa) := by
      have e : (HandSHeadRun.topDef (OpenLaw.row PySem.Challenge.rw_takesworks_k69_texts_of_anything).prog 120).name = ("law" : PySem.Str) := by kernel_rfl
      rw [← e]
      exact hmg0
    obtain ⟨fd, hb, hF⟩ := K69.facts (w := w) KX G hmg c
    exact ⟨K, fd, KX, hb, hF⟩
