import PyProof.Rows.All
import Wide.All
import OpenK.AllK
import Wide.FinOn
import HandS.ForMost
import HandS.Wide
import HandS.Flow
import HandS.IsInst
import HandS.Codes
import HandS.TupLe
import HandS.Zip
import HandS.Walk
import HandS.FStrTup
import HandS.RaiseMore
import PyProof.ReprRoads
import HandS.ForExc
import HandS.ExcInit
import HandS.ExcField
import HandS.ExcIs
import HandS.CallSlots
import HandS.Defaults
import HandS.MakeKw
import HandS.MakeKwOnly
import KE.KExcIs
import KE.KTryMore
import PyProof.StrLawsRepr
import KE.SortData
import HandS.TupAny
import HandS.Style
import PyProof.StrOps2
import PyProof.NeKinds
import HandS.DictComp
import PyProof.Rows.TupDisplay
import KE.GoesMore
import HandS.Iter
import HandS.More
import KE.DataMinMax
import KE.KStar
import HandS.EndTab
import KE.DataMinKey
import KE.KDictList
import KE.DatumOrd
import HandS.Star
import PyProof.AutoSeq1
import KE.SortKeyHeap
import HandS.SortKw
import HandS.Conv
import HandS.ExcValue
import HandS.Deep
import KE.KDictSum
import HandS.Dict
import HandS.StrMore
import PyProof.StrLawsIn
import HandS.TryOnly
import KE.KExcInit
import KE.GoesZip
import KE.GoesEnum
import HandS.SortInts
import HandS.RevRange
import HandS.TupMul
import PySem.Challenge.RW_takesworks_k44_titles_in_other_tongues
set_option Elab.async false
set_option linter.all false
set_option maxRecDepth 100000
set_option maxHeartbeats 4000000
namespace K44
open PySem PySem.Spec PyProof.Rows L2
/-! ## defs that show things: promises where no showing is under way -/
structure Gn (P : Program) (w : World) (K : PySem.W.Frag) (mg : Str → Option Value) (base : Heap) (k : Nat) (f : Addr) (fd : FuncData) (ps : List Str) (sp : Sp) : Prop where
  many : ∀ vs H Q E, sp vs H Q E → vs.length = ps.length
  go : ∀ (A : Around) (outer : List Env) (s : Shared) (H : Hp) (args : Args) (us : List Value) (vs : List V) (Q : VK) (E : XK), A.guards = some [] → Room k A →
    Env0 P w K mg base A outer s H → BindsTo s fd args (ps.zip us) → Vals vs us → sp vs H Q E → codeAny (model P w) A (.call (.ref f) args) (CR CX0 outer P w H s Q E) s
section
variable {P : Program} {w : World} {K : PySem.W.Frag} {mg : Str → Option Value} {base : Heap}
theorem gn_body {x qual : Str} {st : Stmt} {f : Addr} {fd : FuncData} {N ps : List Str} {k : Nat} {sp : Sp} (F : Fun K x qual st f fd) (S : FnScope N ps (defScope st))
    (many : ∀ vs H Q E, sp vs H Q E → vs.length = ps.length)
    (body : ∀ (cdv : Value) (A : Around) (outer : List Env) (s : Shared) (H : Hp) (vs : List V) (Q : VK) (E : XK), A.guards = some [] →
      Room k (A.deeper (envOfC qual (defScope st) s.heap.objs.size f cdv)) → sp vs H Q E →
      ∃ t, PSs (cxOf CX0 P w K mg base N qual (defScope st) f cdv A outer s H E).nox (defBody st) t ∧ t { nx := fun _ H' => Q .non H', rt := Q } (start N vs) H) :
    Gn P w K mg base (k + 1) f fd ps sp := by
  obtain ⟨oc, od, kV, doc, pm, an, cdv, ct, osl, rfl, lk, hcd⟩ := F.ex
  refine ⟨many, fun A outer s H args us vs Q E hg room en bd rv hsp => ?_⟩
  have kin : K.In s.heap := en.mod.kin.keeps fun b o q => (en.bs b o q).1
  refine Att.call_fn kin (en.mod.nolimit.keeps fun b o q => (en.bs b o q).1) lk hcd room.depth bd ?_ (fun s1 inc => ?_) S.co S.gen S.kind
  · refine List.all_eq_true.mpr fun y hy => ?_
    rcases S.par y.1 (List.of_mem_zip (a := y.1) (b := y.2) hy).1 with q | q
    · rw [q]; rfl
    · rw [q]; rfl
  · obtain ⟨t, ht, hq⟩ := body cdv A outer s H vs Q E hg (room.deeper _) hsp
    have I := inv_start (CX := CX0) (E := E) S room.hd en (many _ _ _ _ hsp) rv inc
    refine wpAny_mono (ht.nox.run [] s1 _ H _ I hq) (fun fl s' hs => ?_) fun _ _ z => z
    cases fl with
    | ret u =>
      obtain ⟨v, _, H', J, r, q⟩ := hs
      exact ⟨v, H', J.os, J.bare, J.base, J.hok, r, q⟩
    | next =>
      obtain ⟨_, H', J, q⟩ := hs
      exact ⟨.non, H', J.os, J.bare, J.base, J.hok, rfl, q⟩
    | brk =>
      obtain ⟨_, _, _, z⟩ := hs
      exact False.elim z
    | cont =>
      obtain ⟨_, _, _, z⟩ := hs
      exact False.elim z
end
section
variable {X : Cx} {k : Nat} {f : Addr} {fd : FuncData} {ps : List Str} {sp : Sp} {x : Str} {p pos : Pos} {e : Expr} {es : List Expr} {t : TA}
theorem pe_gn (F : Gn X.prog X.w X.K X.mg X.base k f fd ps sp) (quiet : X.A.guards = some []) (room : Room k X.A) (gl : Gl X x) (mgf : X.mg x = some (.ref f))
    (kp : PySem.W.keepIn X.K (.ref f) = true) (bd : Binds X.K fd ps []) (ha : PA X (e :: es) t) (hdb : (x == ("__debug__" : Str)) = false := by decide)
    (he : starEach (e :: es) X.env = (false, eval e X.env) :: starEach es X.env := by rfl) (hpl : (backTo pos (starEach es X.env)).any (·.1) = false := by rfl) :
    PE X (.Call (.Name x p) (e :: es) [] pos) (tCall sp [] E0 t) := by
  refine ⟨fun pins s σ H Q I h => wpAny_Call_Name_kw (ld_glob I gl mgf ?_ hdb)⟩
  refine PySem.W.callWith_K (h₀ := X.base) I.ok.mod.kin kp ?_ he hpl
  refine thn (ha.run pos pins s σ H _ I h) fun us s1 z => ?_
  obtain ⟨vs, H1, I1, rv, q⟩ := z
  have q' : sp vs H1 Q E0 := by
    have z := q
    rw [List.append_nil] at z
    exact z
  have many : us.length = ps.length := rv.length.symm.trans (F.many _ _ _ _ q')
  have b1 := bd s1 us I1.kIn (by rw [List.append_nil]; exact many)
  rw [List.append_nil] at b1
  refine ⟨I1.kIn, wpAny_call (codeAny_mono (F.go X.A X.stack s1 H1 ⟨us, []⟩ us vs Q E0 quiet room I1.env0 b1 rv q') fun r s' hr => ?_)⟩
  cases r with
  | error z => exact False.elim hr
  | ok fl =>
    cases fl with
    | ret u => exact I1.after hr
    | next => exact False.elim hr
    | brk => exact False.elim hr
    | cont => exact False.elim hr
/-- repr of data at any depth -/
theorem cr_reprD (quiet : X.A.guards = some []) (room : Room k X.A) : CallR X (.builtin "repr") (fun xs H Q => ∃ (a : Addr) (d : PyData), xs = [.ref a] ∧ Dp X.K H (.ref a) d ∧ d.showable = true ∧ d.hasDict = false ∧
    d.depth ≤ 50 ∧ d.shown.length ≤ sizeLine ∧ Q (.str d.shown) H) := by
  intro pins s σ H xs us Q I r h
  obtain ⟨a, d, rfl, hd, hs, hn, hp, hz, q⟩ := h
  obtain ⟨u, rfl, rx⟩ := vals1 r
  obtain ⟨as, rd⟩ := Dp.reads I d _ u hd rx
  cases rx
  have hu := room.units
  exact repr_of_reads' rd hs (fun z => absurd (hn.symm.trans z) Bool.false_ne_true) quiet (by omega) (fun _ _ z => z) (fun h' u tk kept => ⟨.str d.shown, H, I.kept kept, ⟨u, rfl⟩, q⟩) hz
theorem cr_repr_bl : CallR X (.builtin "repr") (fun xs H Q => ∃ b : Bool, xs = [.bl b] ∧ Q (.str (if b then "True" else "False")) H) := by
  intro pins s σ H xs us Q I r h
  obtain ⟨b, rfl, q⟩ := h
  obtain ⟨u, rfl, rx⟩ := vals1 r
  cases rx
  exact PySem.P.repr_of_bool ⟨.str _, H, I.tok _, ⟨_, rfl⟩, q⟩
end
end K44
set_option Elab.async false
set_option linter.all false
set_option maxRecDepth 100000
set_option maxHeartbeats 4000000
namespace K44
open PySem PySem.Spec PyProof.Rows L2
theorem law_go {P : Program} {w : World} {K : PySem.W.Frag} {mg mb : Str → Option Value} {k : Nat} {fa a : Addr} {fd : FuncData} {x : Str} {sp : Sp} {z : Shared} {vs : List Value} {ns : List Int}
    (kin : K.In z.heap) (nsG : z.heap.Ns mainGlobals mg) (nsB : z.heap.Ns builtinsNs mb) (same : ∀ y : Str, y ≠ "__name__" → mb y = bootBuiltins y) (lim : z.heap.NoLimit) (dig : z.heap.NoDigits) (no : z.gens = #[])
    (at_ : z.heap.get? a = some { cls := .type "list", data := .seq vs.toArray }) (intsA : IntsAre vs ns) (many : ns.length ≤ sizeLine) (room : Room k callerA)
    (F : ∀ base : Heap, K.In base → base.Ns mainGlobals mg → base.NoDigits → Gn P w K mg base k fa fd [x] sp) (bind : ∀ (s : Shared) (u : Value), BindsTo s fd ⟨[u], []⟩ [(x, u)])
    (hsp : ∀ H : Hp, SqL K H a (ns.map V.int) → sp [.ref a] H (fun v _ => v = .bl true) fun _ _ _ => False) :
    codeAny (model P w) callerA (.call (.ref fa) ⟨[.ref a], []⟩) (fun r s' => r = .ok (.ret (.bool true)) ∧ OldK z.heap s'.heap ∧ s'.os = z.os ∧ AllBare s'.gens) z := by
  have rv : Vals (ns.map V.int) vs := vals_ints intsA
  have sz : (ns.map V.int).length ≤ sizeLine := by rw [List.length_map]; exact many
  -- what is tracked: the script, unless it is the module's own
  let u : HO := .frz { cls := .type "list", data := .seq vs.toArray } (.lst (ns.map V.int))
  let H : Hp := fun b => if b = a ∧ K.lookup a = none then some u else none
  have only : ∀ b o, H b = some o → b = a ∧ K.lookup a = none ∧ o = u := fun b o e => by
    by_cases c : b = a ∧ K.lookup a = none
    · have e2 : H b = some u := if_pos c
      rw [e2] at e
      exact ⟨c.1, c.2, (Option.some.inj e).symm⟩
    · have e2 : H b = none := if_neg c
      rw [e2] at e
      cases e
  have sq : SqL K H a (ns.map V.int) := by
    cases hk : K.lookup a with
    | none => exact .inl (.inr ⟨_, if_pos ⟨rfl, hk⟩⟩)
    | some o =>
      have e := kin a o hk
      rw [at_] at e
      cases e
      exact .inr ⟨_, vs.toArray, _, hk, rfl, rfl, rfl, by rw [List.size_toArray, ← rv.length]; exact sz, by simpa using rv⟩
  have hok : HOk P w H z.heap := fun b o e => by
    obtain ⟨rfl, _, rfl⟩ := only b o e
    exact ⟨at_, sz, vs, _, rv, at_⟩
  have dictFree : ∀ {b : Addr} {o : Obj} {es : Array DictEntry} {ep : Nat}, z.heap.get? b = some o → o.data = .dict es ep → H b = none := fun {b o es ep} e d => by
    cases q : H b with
    | none => rfl
    | some v =>
      obtain ⟨rfl, _, _⟩ := only b v q
      rw [at_] at e
      cases e
      cases (show Data.seq vs.toArray _ = Data.dict es ep from d)
  have nsK : ∀ {b : Addr} {m : Str → Option Value}, z.heap.Ns b m → (hidT z.heap H).Ns b m := fun {b m} q => by
    obtain ⟨o, es, ep, e, d, r⟩ := q
    exact ⟨o, es, ep, hidT_get e (dictFree e d), d, r⟩
  have kb : K.In (hidT z.heap H) := fun b o e => by
    refine hidT_get (kin b o e) ?_
    cases q : H b with
    | none => rfl
    | some v =>
      obtain ⟨rfl, n, _⟩ := only b v q
      rw [n] at e
      cases e
  have limB : (hidT z.heap H).NoLimit := by
    obtain ⟨mc, h1, h2⟩ := lim
    exact ⟨mc, nsK h1, h2⟩
  have digB : (hidT z.heap H).NoDigits := by
    obtain ⟨mc, h1, h2⟩ := dig
    exact ⟨mc, nsK h1, h2⟩
  have en : Env0 P w K mg (hidT z.heap H) callerA [] z H :=
    ⟨rfl, ⟨kb, nsK nsG, ⟨mb, nsK nsB, same⟩, limB⟩, fun _ _ e => of_hidT e, Nat.le_of_eq (hidT_size _ _), trivial, (fun b hb => absurd (show b ∈ ([] : List Addr) from hb) List.not_mem_nil), hok, .of_eq no⟩
  refine codeAny_mono ((F _ kb (nsK nsG) digB).go callerA [] z H ⟨[.ref a], []⟩ [.ref a] [.ref a] _ _ rfl room en (bind z (.ref a)) (.cons rfl .nil) (hsp H sq)) fun r s' h => ?_
  match r, h with
  | .error e, h => exact False.elim h
  | .ok .next, h => exact False.elim h
  | .ok .brk, h => exact False.elim h
  | .ok .cont, h => exact False.elim h
  | .ok (.ret y), h =>
    obtain ⟨v, H', os, bare, un, hok', r', q⟩ := h
    obtain rfl : v = .bl true := q
    obtain rfl : y = Value.bool true := r'
    refine ⟨rfl, OldK.of_keep fun b o e => ?_, os, bare⟩
    cases q : H b with
    | none => exact un.keep b o e q (fun y => by cases y) (fun y => by cases y)
    | some v =>
      obtain ⟨rfl, _, rfl⟩ := only b v q
      have e2 := (hok' _ _ (un.frzs _ _ _ q)).1
      rw [at_] at e
      cases e
      exact e2
theorem walk_go {l : PySem.W.OpenLaw} {n k : Nat} {q : Program} {loose : List Str} {XP : (Str → Option Value) → Heap → Prop} {YP : World → Heap → Prop} {d : DefRec} {K : Params → PySem.W.Frag} {sp : PySem.W.Frag → Sp} {x : Str}
    (most : l.most = some n) (small : n ≤ sizeLine) (nodef : d.params.defaults = []) (room : Room k callerA) (hY : ∀ (w : World) (h : Heap), YP w h → (K w.params).In h)
    (F : ∀ (w : World) (mg : Str → Option Value) (fa : Addr) (h : Heap), (K w.params).In h → h.Ns mainGlobals mg → mg d.name = some (.ref fa) →
      ∃ fd : FuncData, (∀ (s : Shared) (u : Value), BindsTo s fd ⟨[u], []⟩ [(x, u)]) ∧ ∀ base : Heap, (K w.params).In base → base.Ns mainGlobals mg → base.NoDigits →
        Gn l.prog w (K w.params) mg base k fa fd [x] (sp (K w.params)))
    (hsp : ∀ (K : PySem.W.Frag) (H : Hp) (a : Addr) (ns : List Int), ns.length ≤ n → SqL K H a (ns.map V.int) → sp K [.ref a] H (fun v _ => v = .bl true) fun _ _ _ => False) :
    PySem.W.WalkO q loose XP YP l.row.toRowW d [] (fun f vs => PySem.call f vs) := by
  refine Att.attach_call most nodef fun w s₀ s₁ mg mb fa o pm cd doc a vs ns G Y _ _ _ hmg hobj hints hlen hg => ?_
  have kin := hY w _ Y
  obtain ⟨fd, hb, hF⟩ := F w mg fa _ kin G.T.g hmg
  exact law_go kin G.T.g G.T.b G.T.builtins G.T.nolimit G.T.nodigits hg hobj hints (Nat.le_trans hlen small) room hF hb fun H hS => hsp _ H a ns hlen hS
end K44
set_option Elab.async false
set_option linter.all false
set_option maxRecDepth 100000
set_option maxHeartbeats 4000000
namespace N44
open PySem PySem.Spec PyProof.Rows L2
/-! ## defs that show things: promises where no showing is under way -/
structure Gn (P : Program) (w : World) (K : PySem.W.Frag) (mg : Str → Option Value) (base : Heap) (k : Nat) (f : Addr) (fd : FuncData) (ps : List Str) (sp : Sp) : Prop where
  many : ∀ vs H Q E, sp vs H Q E → vs.length = ps.length
  go : ∀ (A : Around) (outer : List Env) (s : Shared) (H : Hp) (args : Args) (us : List Value) (vs : List V) (Q : VK) (E : XK), A.guards = some [] → Room k A →
    Env0 P w K mg base A outer s H → BindsTo s fd args (ps.zip us) → Vals vs us → sp vs H Q E → codeAny (model P w) A (.call (.ref f) args) (CR CX0 outer P w H s Q E) s
section
variable {P : Program} {w : World} {K : PySem.W.Frag} {mg : Str → Option Value} {base : Heap}
theorem gn_body {x qual : Str} {st : Stmt} {f : Addr} {fd : FuncData} {N ps : List Str} {k : Nat} {sp : Sp} (F : Fun K x qual st f fd) (S : FnScope N ps (defScope st))
    (many : ∀ vs H Q E, sp vs H Q E → vs.length = ps.length)
    (body : ∀ (cdv : Value) (A : Around) (outer : List Env) (s : Shared) (H : Hp) (vs : List V) (Q : VK) (E : XK), A.guards = some [] →
      Room k (A.deeper (envOfC qual (defScope st) s.heap.objs.size f cdv)) → sp vs H Q E →
      ∃ t, PSs (cxOf CX0 P w K mg base N qual (defScope st) f cdv A outer s H E).nox (defBody st) t ∧ t { nx := fun _ H' => Q .non H', rt := Q } (start N vs) H) :
    Gn P w K mg base (k + 1) f fd ps sp := by
  obtain ⟨oc, od, kV, doc, pm, an, cdv, ct, osl, rfl, lk, hcd⟩ := F.ex
  refine ⟨many, fun A outer s H args us vs Q E hg room en bd rv hsp => ?_⟩
  have kin : K.In s.heap := en.mod.kin.keeps fun b o q => (en.bs b o q).1
  refine Att.call_fn kin (en.mod.nolimit.keeps fun b o q => (en.bs b o q).1) lk hcd room.depth bd ?_ (fun s1 inc => ?_) S.co S.gen S.kind
  · refine List.all_eq_true.mpr fun y hy => ?_
    rcases S.par y.1 (List.of_mem_zip (a := y.1) (b := y.2) hy).1 with q | q
    · rw [q]; rfl
    · rw [q]; rfl
  · obtain ⟨t, ht, hq⟩ := body cdv A outer s H vs Q E hg (room.deeper _) hsp
    have I := inv_start (CX := CX0) (E := E) S room.hd en (many _ _ _ _ hsp) rv inc
    refine wpAny_mono (ht.nox.run [] s1 _ H _ I hq) (fun fl s' hs => ?_) fun _ _ z => z
    cases fl with
    | ret u =>
      obtain ⟨v, _, H', J, r, q⟩ := hs
      exact ⟨v, H', J.os, J.bare, J.base, J.hok, r, q⟩
    | next =>
      obtain ⟨_, H', J, q⟩ := hs
      exact ⟨.non, H', J.os, J.bare, J.base, J.hok, rfl, q⟩
    | brk =>
      obtain ⟨_, _, _, z⟩ := hs
      exact False.elim z
    | cont =>
      obtain ⟨_, _, _, z⟩ := hs
      exact False.elim z
end
section
variable {X : Cx} {k : Nat} {f : Addr} {fd : FuncData} {ps : List Str} {sp : Sp} {x : Str} {p pos : Pos} {e : Expr} {es : List Expr} {t : TA}
theorem pe_gn (F : Gn X.prog X.w X.K X.mg X.base k f fd ps sp) (quiet : X.A.guards = some []) (room : Room k X.A) (gl : Gl X x) (mgf : X.mg x = some (.ref f))
    (kp : PySem.W.keepIn X.K (.ref f) = true) (bd : Binds X.K fd ps []) (ha : PA X (e :: es) t) (hdb : (x == ("__debug__" : Str)) = false := by decide)
    (he : starEach (e :: es) X.env = (false, eval e X.env) :: starEach es X.env := by rfl) (hpl : (backTo pos (starEach es X.env)).any (·.1) = false := by rfl) :
    PE X (.Call (.Name x p) (e :: es) [] pos) (tCall sp [] E0 t) := by
  refine ⟨fun pins s σ H Q I h => wpAny_Call_Name_kw (ld_glob I gl mgf ?_ hdb)⟩
  refine PySem.W.callWith_K (h₀ := X.base) I.ok.mod.kin kp ?_ he hpl
  refine thn (ha.run pos pins s σ H _ I h) fun us s1 z => ?_
  obtain ⟨vs, H1, I1, rv, q⟩ := z
  have q' : sp vs H1 Q E0 := by
    have z := q
    rw [List.append_nil] at z
    exact z
  have many : us.length = ps.length := rv.length.symm.trans (F.many _ _ _ _ q')
  have b1 := bd s1 us I1.kIn (by rw [List.append_nil]; exact many)
  rw [List.append_nil] at b1
  refine ⟨I1.kIn, wpAny_call (codeAny_mono (F.go X.A X.stack s1 H1 ⟨us, []⟩ us vs Q E0 quiet room I1.env0 b1 rv q') fun r s' hr => ?_)⟩
  cases r with
  | error z => exact False.elim hr
  | ok fl =>
    cases fl with
    | ret u => exact I1.after hr
    | next => exact False.elim hr
    | brk => exact False.elim hr
    | cont => exact False.elim hr
/-- repr of data at any depth -/
theorem cr_reprD (quiet : X.A.guards = some []) (room : Room k X.A) : CallR X (.builtin "repr") (fun xs H Q => ∃ (a : Addr) (d : PyData), xs = [.ref a] ∧ Dp X.K H (.ref a) d ∧ d.showable = true ∧ d.hasDict = false ∧
    d.depth ≤ 50 ∧ d.shown.length ≤ sizeLine ∧ Q (.str d.shown) H) := by
  intro pins s σ H xs us Q I r h
  obtain ⟨a, d, rfl, hd, hs, hn, hp, hz, q⟩ := h
  obtain ⟨u, rfl, rx⟩ := vals1 r
  obtain ⟨as, rd⟩ := Dp.reads I d _ u hd rx
  cases rx
  have hu := room.units
  exact repr_of_reads' rd hs (fun z => absurd (hn.symm.trans z) Bool.false_ne_true) quiet (by omega) (fun _ _ z => z) (fun h' u tk kept => ⟨.str d.shown, H, I.kept kept, ⟨u, rfl⟩, q⟩) hz
theorem cr_repr_bl : CallR X (.builtin "repr") (fun xs H Q => ∃ b : Bool, xs = [.bl b] ∧ Q (.str (if b then "True" else "False")) H) := by
  intro pins s σ H xs us Q I r h
  obtain ⟨b, rfl, q⟩ := h
  obtain ⟨u, rfl, rx⟩ := vals1 r
  cases rx
  exact PySem.P.repr_of_bool ⟨.str _, H, I.tok _, ⟨_, rfl⟩, q⟩
end
end N44
set_option Elab.async false
set_option linter.all false
set_option maxRecDepth 100000
set_option maxHeartbeats 4000000
namespace N44
open PySem PySem.Spec PyProof.Rows L2
theorem law_go {P : Program} {w : World} {K : PySem.W.Frag} {mg mb : Str → Option Value} {k : Nat} {fa a : Addr} {fd : FuncData} {x : Str} {sp : Sp} {z : Shared} {vs : List Value} {ns : List Int}
    (kin : K.In z.heap) (nsG : z.heap.Ns mainGlobals mg) (nsB : z.heap.Ns builtinsNs mb) (same : ∀ y : Str, y ≠ "__name__" → mb y = bootBuiltins y) (lim : z.heap.NoLimit) (dig : z.heap.NoDigits) (no : z.gens = #[])
    (at_ : z.heap.get? a = some { cls := .type "list", data := .seq vs.toArray }) (intsA : IntsAre vs ns) (many : ns.length ≤ sizeLine) (room : Room k callerA)
    (F : ∀ base : Heap, K.In base → base.Ns mainGlobals mg → base.NoDigits → Gn P w K mg base k fa fd [x] sp) (bind : ∀ (s : Shared) (u : Value), BindsTo s fd ⟨[u], []⟩ [(x, u)])
    (hsp : ∀ H : Hp, SqL K H a (ns.map V.int) → sp [.ref a] H (fun v _ => v = .bl true) fun _ _ _ => False) :
    codeAny (model P w) callerA (.call (.ref fa) ⟨[.ref a], []⟩) (fun r s' => r = .ok (.ret (.bool true)) ∧ OldK z.heap s'.heap ∧ s'.os = z.os ∧ AllBare s'.gens) z := by
  have rv : Vals (ns.map V.int) vs := vals_ints intsA
  have sz : (ns.map V.int).length ≤ sizeLine := by rw [List.length_map]; exact many
  -- what is tracked: the script, unless it is the module's own
  let u : HO := .frz { cls := .type "list", data := .seq vs.toArray } (.lst (ns.map V.int))
  let H : Hp := fun b => if b = a ∧ K.lookup a = none then some u else none
  have only : ∀ b o, H b = some o → b = a ∧ K.lookup a = none ∧ o = u := fun b o e => by
    by_cases c : b = a ∧ K.lookup a = none
    · have e2 : H b = some u := if_pos c
      rw [e2] at e
      exact ⟨c.1, c.2, (Option.some.inj e).symm⟩
    · have e2 : H b = none := if_neg c
      rw [e2] at e
      cases e
  have sq : SqL K H a (ns.map V.int) := by
    cases hk : K.lookup a with
    | none => exact .inl (.inr ⟨_, if_pos ⟨rfl, hk⟩⟩)
    | some o =>
      have e := kin a o hk
      rw [at_] at e
      cases e
      exact .inr ⟨_, vs.toArray, _, hk, rfl, rfl, rfl, by rw [List.size_toArray, ← rv.length]; exact sz, by simpa using rv⟩
  have hok : HOk P w H z.heap := fun b o e => by
    obtain ⟨rfl, _, rfl⟩ := only b o e
    exact ⟨at_, sz, vs, _, rv, at_⟩
  have dictFree : ∀ {b : Addr} {o : Obj} {es : Array DictEntry} {ep : Nat}, z.heap.get? b = some o → o.data = .dict es ep → H b = none := fun {b o es ep} e d => by
    cases q : H b with
    | none => rfl
    | some v =>
      obtain ⟨rfl, _, _⟩ := only b v q
      rw [at_] at e
      cases e
      cases (show Data.seq vs.toArray _ = Data.dict es ep from d)
  have nsK : ∀ {b : Addr} {m : Str → Option Value}, z.heap.Ns b m → (hidT z.heap H).Ns b m := fun {b m} q => by
    obtain ⟨o, es, ep, e, d, r⟩ := q
    exact ⟨o, es, ep, hidT_get e (dictFree e d), d, r⟩
  have kb : K.In (hidT z.heap H) := fun b o e => by
    refine hidT_get (kin b o e) ?_
    cases q : H b with
    | none => rfl
    | some v =>
      obtain ⟨rfl, n, _⟩ := only b v q
      rw [n] at e
      cases e
  have limB : (hidT z.heap H).NoLimit := by
    obtain ⟨mc, h1, h2⟩ := lim
    exact ⟨mc, nsK h1, h2⟩
  have digB : (hidT z.heap H).NoDigits := by
    obtain ⟨mc, h1, h2⟩ := dig
    exact ⟨mc, nsK h1, h2⟩
  have en : Env0 P w K mg (hidT z.heap H) callerA [] z H :=
    ⟨rfl, ⟨kb, nsK nsG, ⟨mb, nsK nsB, same⟩, limB⟩, fun _ _ e => of_hidT e, Nat.le_of_eq (hidT_size _ _), trivial, (fun b hb => absurd (show b ∈ ([] : List Addr) from hb) List.not_mem_nil), hok, .of_eq no⟩
  refine codeAny_mono ((F _ kb (nsK nsG) digB).go callerA [] z H ⟨[.ref a], []⟩ [.ref a] [.ref a] _ _ rfl room en (bind z (.ref a)) (.cons rfl .nil) (hsp H sq)) fun r s' h => ?_
  match r, h with
  | .error e, h => exact False.elim h
  | .ok .next, h => exact False.elim h
  | .ok .brk, h => exact False.elim h
  | .ok .cont, h => exact False.elim h
  | .ok (.ret y), h =>
    obtain ⟨v, H', os, bare, un, hok', r', q⟩ := h
    obtain rfl : v = .bl true := q
    obtain rfl : y = Value.bool true := r'
    refine ⟨rfl, OldK.of_keep fun b o e => ?_, os, bare⟩
    cases q : H b with
    | none => exact un.keep b o e q (fun y => by cases y) (fun y => by cases y)
    | some v =>
      obtain ⟨rfl, _, rfl⟩ := only b v q
      have e2 := (hok' _ _ (un.frzs _ _ _ q)).1
      rw [at_] at e
      cases e
      exact e2
theorem walk_go {l : PySem.W.OpenLaw} {n k : Nat} {q : Program} {loose : List Str} {XP : (Str → Option Value) → Heap → Prop} {YP : World → Heap → Prop} {d : DefRec} {K : Params → PySem.W.Frag} {sp : PySem.W.Frag → Sp} {x : Str}
    (most : l.most = some n) (small : n ≤ sizeLine) (nodef : d.params.defaults = []) (room : Room k callerA) (hY : ∀ (w : World) (h : Heap), YP w h → (K w.params).In h)
    (F : ∀ (w : World) (mg : Str → Option Value) (fa : Addr) (h : Heap), (K w.params).In h → h.Ns mainGlobals mg → mg d.name = some (.ref fa) →
      ∃ fd : FuncData, (∀ (s : Shared) (u : Value), BindsTo s fd ⟨[u], []⟩ [(x, u)]) ∧ ∀ base : Heap, (K w.params).In base → base.Ns mainGlobals mg → base.NoDigits →
        Gn l.prog w (K w.params) mg base k fa fd [x] (sp (K w.params)))
    (hsp : ∀ (K : PySem.W.Frag) (H : Hp) (a : Addr) (ns : List Int), ns.length ≤ n → SqL K H a (ns.map V.int) → sp K [.ref a] H (fun v _ => v = .bl true) fun _ _ _ => False) :
    PySem.W.WalkO q loose XP YP l.row.toRowW d [] (fun f vs => PySem.call f vs) := by
  refine Att.attach_call most nodef fun w s₀ s₁ mg mb fa o pm cd doc a vs ns G Y _ _ _ hmg hobj hints hlen hg => ?_
  have kin := hY w _ Y
  obtain ⟨fd, hb, hF⟩ := F w mg fa _ kin G.T.g hmg
  exact law_go kin G.T.g G.T.b G.T.builtins G.T.nolimit G.T.nodigits hg hobj hints (Nat.le_trans hlen small) room hF hb fun H hS => hsp _ H a ns hlen hS
end N44
set_option Elab.async false
set_option linter.all false
set_option maxRecDepth 100000
set_option maxHeartbeats 4000000
set_option pp.maxSteps 400
set_option pp.deepTerms false
/-! A caught exception that is kept: tracked as an object of its own, with its class and its dict. -/
namespace Xk
open PySem PySem.Spec PyProof.Rows L2
/-- at a: an exception of the class cls, its dict at d (if it has one) -/
def ExK (cls : Value) (d : Option Addr) (a : Addr) : HO := .ext fun h => ∃ oe : Obj, h.get? a = some oe ∧ Zc cls d oe ∧ ∃ vs, oe.data = .fields vs
theorem exK_ok {P : Program} {w : World} {H : Hp} {h : Heap} {a : Addr} {cls : Value} {d : Option Addr} {oe : Obj} {vs : Array Value}
    (e : h.get? a = some oe) (z : Zc cls d oe) (hd : oe.data = .fields vs) : ObjOk P w H h a (ExK cls d a) :=
  ⟨⟨oe, e, z, vs, hd⟩, ⟨oe, e⟩, fun _ _ y k => by
    obtain ⟨o, q, r⟩ := y
    exact ⟨o, k o q, r⟩⟩
theorem exK_at {P : Program} {w : World} {H : Hp} {h : Heap} {a : Addr} {cls : Value} {d : Option Addr} (hok : HOk P w H h) (e : H a = some (ExK cls d a)) :
    ∃ oe : Obj, h.get? a = some oe ∧ Zc cls d oe ∧ ∃ vs, oe.data = .fields vs := by
  have z : ObjOk P w H h a (.ext fun h => ∃ oe : Obj, h.get? a = some oe ∧ Zc cls d oe ∧ ∃ vs, oe.data = .fields vs) := hok a _ e
  exact z.1
section
variable {X : Cx} {pins : List (Addr × Obj)} {σ : L2.St} {H : Hp} {s : Shared}
/-- an object that came during the call, untracked as yet, is tracked from here on -/
theorem track {a : Addr} {o : HO} (I : Inv X pins σ H s) (h0 : X.s_0.heap.get? a = none) (na : H a = none) (nL : a ≠ X.env.locals)
    (nC : ∀ x c, X.env.cells.lookup x = some c → c ≠ a) (nP : ∀ p ∈ X.pn ++ pins, p.1 ≠ a) (new : ObjOk X.prog X.w (upd H a o) s.heap a o) : Inv X pins σ (upd H a o) s := by
  have n0 : ∀ {b : Addr} {u : Obj}, X.s_0.heap.get? b = some u → b ≠ a := fun {b u} e z => by
    rw [z, h0] at e
    cases e
  refine ⟨I.ok, I.os, I.bare, ⟨I.base.keep, I.base.slot, fun b u e n hx => ?_, I.base.there, fun b xs e => ?_, fun b u v e => ?_, fun b ps e => ?_⟩, I.loc, I.cell, ?_, fun x c e => ?_, fun p hp => ?_, fun b u e => ?_, I.len⟩
  · rw [upd_ne (n0 e)]
    exact I.base.free b u e n hx
  · have q := I.base.tups b xs e
    rw [upd_ne (ne_of_none q na)]
    exact q
  · have q := I.base.frzs b u v e
    rw [upd_ne (ne_of_none q na)]
    exact q
  · obtain ⟨m, q⟩ := I.base.tbls b ps e
    exact ⟨m, by rw [upd_ne (ne_of_none q na)]; exact q⟩
  · rw [upd_ne (Ne.symm nL)]
    exact I.free
  · rw [upd_ne (nC x c e)]
    exact I.freeC x c e
  · obtain ⟨e1, e2, e3⟩ := I.pin p hp
    exact ⟨e1, by rw [upd_ne (nP p hp)]; exact e2, e3⟩
  · by_cases hb : b = a
    · subst hb
      rw [upd_same] at e
      cases e
      exact new
    · rw [upd_ne hb] at e
      refine (I.hok b u e).stay (fun _ _ _ q => q) (fun c q => ?_) fun c xs q => ?_
      · rw [upd_ne (ne_of_none q na)]
        exact q
      · rw [upd_ne (ne_of_none q na)]
        exact q
end
theorem flying_kept {B h h' : Heap} {l : List Env} {a : Addr} {Z : Obj → Prop} (f : HandSPX.FlyingZ B l a Z h) (k : ∀ b o, h.get? b = some o → h'.get? b = some o) : HandSPX.FlyingZ B l a Z h' := by
  obtain ⟨f1, f2, f3, oe, vs, T, oT, ts, t1, t2, t3, t4, t5, t6, t7, t8, t9⟩ := f
  exact ⟨fun b o e => k b o (f1 b o e), f2, f3.of_keeps fun b o e _ => ⟨o, k b o e, rfl⟩, oe, vs, T, oT, ts, k _ _ t1, t2, t3, t4, t5, t6, k _ _ t7, t8, t9⟩
/-- what the clause 'except (A, B, C) as n' wishes of an exception of the body: slot i is n's; the exception is tracked -/
def wKeep (K : PySem.W.Frag) (cs : List Value) (i : Nat) (ts : Addr → TS) (Wout : WX) (D : Ends) : WX := fun cls d σ H =>
  ∃ b, PySem.W.exmAny K cls cs = some b ∧
    (b = true → ∀ a, H a = none → ts a { nx := fun σ' H' => D.nx (σ'.set i none) H', rt := D.rt, bk := fun σ' H' => D.bk (σ'.set i none) H', ct := fun σ' H' => D.ct (σ'.set i none) H' } (σ.set i (some (.ref a))) (upd H a (ExK cls d a))) ∧
    (b = false → Wout cls d σ H)
/-- a module's own class by its name -/
structure Nm (X : Cx) (x : Str) (C : Addr) : Prop where
  gl : Gl X x
  db : (x == ("__debug__" : Str)) = false
  mg : X.mg x = some (.ref C)
section
variable {X : Cx} {x1 x2 x3 n : Str} {C1 C2 C3 : Addr} {i : Nat} {body suite : List Stmt} {b₀ : Stmt} {p1 p2 p3 tp pos pos' : Pos} {tb : WX → TS} {ts : Addr → TS} {Wout : WX} {cx}
theorem ps_try_keep (hs : X.stack = X.env :: X.outer) (hf : X.env.frame = some X.env.locals) (hex : X.ex = []) (hN : X.N.Nodup) (hi : X.N[i]? = some n) (hln : X.env.kindOf n = some .local)
    (n1 : Nm X x1 C1) (n2 : Nm X x2 C2) (n3 : Nm X x3 C3) (tk : Takes X Wout)
    (hb : ∀ (W : WX) (pn : List (Addr × Obj)) (xe : Value → Shared → Prop), Takes (X.tr pn xe) W → PassesOwn (model X.prog X.w) X.A X.env xe → PSs (X.tr pn xe) body (tb W))
    (hsu : ∀ (a : Addr) (pn : List (Addr × Obj)), PSs (X.suite a pn) (b₀ :: suite) (ts a)) :
    PS X (.Try body [.ExceptHandler (some (.Tuple [.Name x1 p1, .Name x2 p2, .Name x3 p3] cx tp)) (some n) (b₀ :: suite) pos'] [] [] pos) (fun D σ H => tb (wKeep X.K [.ref C1, .ref C2, .ref C3] i ts Wout D) D σ H) := by
  refine ⟨fun pins s σ H D I h => ?_⟩
  have ok := I.ok
  have frs2 : X.A.frames = some (X.env :: X.outer) := by rw [ok.frames, hs]
  refine wpAny_Try_except ?_
  refine wpAny_mono ((hb (wKeep X.K [.ref C1, .ref C2, .ref C3] i ts Wout D) (X.pn ++ pins)
    (fun e s₁ => wpAny (model X.prog X.w) X.A (noteFrame e X.env) (fun _ s₂ => wpAny (model X.prog X.w) X.A (setFlight e none) (fun _ s₃ => wpAny (model X.prog X.w) X.A
      (handleBy e X.env [.ExceptHandler (some (.Tuple [.Name x1 p1, .Name x2 p2, .Name x3 p3] cx tp)) (some n) (b₀ :: suite) pos']) (SP X pins D) X.xe s₃) X.xe s₂) X.xe s₁)
    (fun u s' air => ?_) PassesOwn.looking).run [] s σ H D (I.toTry _) h) (fun f s1 hsp => ?_) (fun e s1 he => he)
  · obtain ⟨a, B, sI, pins', σ', H', cls, d, rfl, J', nb, up, sky, na, os, ag, b, hb1, hyes, hno⟩ := air
    have J : Inv X pins σ' H' sI := J'.ofTry ok
    have sky2 : Sky B (X.env :: X.outer) a (Zc cls d) X.env.locals s'.heap := by
      rw [← hs]
      exact sky
    refine Sky.land Zc.steady frs2 hf sky2 fun h3 fl3 up3 => ?_
    obtain ⟨oe3, vs3, he3, hz3, hd3⟩ := fl3.there
    have nfr : a ∉ frs (X.env :: X.outer) := fun hm => by
      obtain ⟨_, o', e', hnf⟩ := fl3.2.2.1.mem hm
      rw [he3] at e'
      cases e'
      exact hnf _ hd3
    have nL : a ≠ X.env.locals := fun z => nfr (List.mem_filterMap.mpr ⟨X.env, List.mem_cons_self, by rw [hf, z]⟩)
    have nF : a ∉ X.fs := fun hm => by
      obtain ⟨e, he, q⟩ := List.mem_filterMap.mp hm
      exact nfr (List.mem_filterMap.mpr ⟨e, List.mem_cons_of_mem _ he, q⟩)
    -- it was not there when the call began
    have aI : sI.heap.get? a = none := by
      cases e : sI.heap.get? a with
      | none => rfl
      | some o =>
        have z := nb a o e (by rw [hs]; exact nfr)
        rw [fl3.2.1] at z
        cases z
    have a0 : X.s_0.heap.get? a = none := by
      cases e : X.s_0.heap.get? a with
      | none => rfl
      | some o =>
        obtain ⟨o', z⟩ := J.base.there a o e (by rw [hex]; exact fun z => nomatch z)
        rw [aI] at z
        cases z
    have nP : ∀ p ∈ X.pn ++ pins, p.1 ≠ a := fun p hp z => by
      have q := (J.pin p hp).1
      rw [z, aI] at q
      cases q
    have trk : ∀ {h4 : Heap} {s4 : Shared}, s4.heap = h4 → HandSPX.FlyingZ B (X.env :: X.outer) a (Zc cls d) h4 → Inv X pins σ' H' s4 → Inv X pins σ' (upd H' a (ExK cls d a)) s4 := fun {h4 s4} e4 fl4 J4 => by
      subst e4
      obtain ⟨oe4, vs4, he4, hz4, hd4⟩ := fl4.there
      refine track J4 a0 na nL (fun x c e z => ?_) nP (exK_ok he4 hz4 hd4)
      obtain ⟨v, o, eo, ed⟩ := J4.cell x c e
      rw [z, he4] at eo
      cases eo
      rw [hd4] at ed
      cases ed
    have J3 : Inv X pins σ' H' { s' with heap := h3 } := J.landed nb fl3.1 (up.trans up3) os ag
    have S3 : Inv (X.suite a (X.pn ++ pins)) [] σ' H' { s' with heap := h3 } :=
      ⟨J3.ok.suite _ _, J3.os, J3.bare, J3.base, J3.loc, J3.cell, J3.free, J3.freeC, fun p hp => J3.pin p (by rw [List.append_nil] at hp; exact hp), J3.hok, J3.len⟩
    refine wpAny_handleBy_cons (codeAny_handlers_test ?_) (by intro q; cases q)
    have own : ∀ {x : Str} {C : Addr} {p : Pos} {Q : Value → Shared → Prop} {E : Value → Shared → Prop}, Nm X x C → Q (.ref C) { s' with heap := h3 } →
        wpAny (model X.prog X.w) (X.A.mark (some (.ref a))) (eval (.Name x p) X.env) Q E { s' with heap := h3 } := fun {x C p Q E} z q => ld_glob (X := X.suite a (X.pn ++ pins)) S3 z.gl z.mg q z.db
    have tup : ∀ {Q : Value → Shared → Prop} {E : Value → Shared → Prop}, Q (.ref h3.objs.size) { s' with heap := h3.push { cls := .type "tuple", data := .seq [Value.ref C1, .ref C2, .ref C3].toArray } } →
        wpAny (model X.prog X.w) (X.A.mark (some (.ref a))) (eval (.Tuple [.Name x1 p1, .Name x2 p2, .Name x3 p3] cx tp) X.env) Q E { s' with heap := h3 } := fun {Q E} q => by
      refine wpAny_Tuple_spliced ?_
      show wpAny _ _ (spliced ((false, eval (.Name x1 p1) X.env) :: (false, eval (.Name x2 p2) X.env) :: (false, eval (.Name x3 p3) X.env) :: [])) _ _ _
      exact Calls.spliced_cons (own n1 (Calls.spliced_cons (own n2 (Calls.spliced_cons (own n3 (Calls.spliced_nil ⟨by show 3 ≤ sizeLine; decide, q⟩))))))
    refine tup ?_
    have k4 : ∀ b o, h3.get? b = some o → (h3.push { cls := .type "tuple", data := .seq [Value.ref C1, .ref C2, .ref C3].toArray }).get? b = some o := fun b o e => Heap.get?_push_of_some _ e
    have t4 := Heap.get?_push_size h3 (o := { cls := .type "tuple", data := .seq [Value.ref C1, .ref C2, .ref C3].toArray }) rfl
    generalize h3.push { cls := .type "tuple", data := .seq [Value.ref C1, .ref C2, .ref C3].toArray } = h4 at k4 t4 ⊢
    have fl4 := flying_kept fl3 k4
    have J4 : Inv X pins σ' H' { s' with heap := h4 } := J3.kept k4
    have LT : PySem.W.Looks (model X.prog X.w) h4 (typeOf (.ref a)) cls := fun A Q E s k q => wpAny_typeOf_ref (k _ _ (k4 _ _ he3)) (by rw [hz3.1]; exact q)
    refine (PySem.W.exm_tup3 (M := model X.prog X.w) J4.kIn LT t4 hb1).here ?_
    cases b with
    | true =>
      refine codeAny_handlers_suite_as ?_
      refine HandSPX.lands_againZ fl4 fun h5 fl5 up5 => ?_
      have J5 : Inv X pins σ' H' { s' with heap := h5 } := J.landed nb fl5.1 ((up.trans up3).trans ((Heap.UpToSlots.of_keeps k4).trans up5)) os ag
      have T5 := trk rfl fl5 J5
      have S5 : Inv (X.suite a (X.pn ++ pins)) [] σ' (upd H' a (ExK cls d a)) { s' with heap := h5 } :=
        ⟨T5.ok.suite _ _, T5.os, T5.bare, T5.base, T5.loc, T5.cell, T5.free, T5.freeC, fun p hp => T5.pin p (by rw [List.append_nil] at hp; exact hp), T5.hok, T5.len⟩
      refine store_ok (X := X.suite a (X.pn ++ pins)) (v := .ref a) S5 hN hi (.inl hln) rfl (fun s6 S6 => ?_) (.inr hln)
      refine wpAny_mono ((hsu a (X.pn ++ pins)).run [] s6 _ _ _ S6 (hyes rfl a na)) (fun f s7 hsp => ?_) (fun _ _ z => False.elim z)
      have back : ∀ {σ7 : L2.St} {H7 : Hp}, Inv (X.suite a (X.pn ++ pins)) [] σ7 H7 s7 → Inv X pins σ7 H7 s7 := fun {σ7 H7} S7 =>
        ⟨ok, S7.os, S7.bare, S7.base, S7.loc, S7.cell, S7.free, S7.freeC, fun p hp => S7.pin p (by rw [List.append_nil]; exact hp), S7.hok, S7.len⟩
      cases f with
      | next =>
        obtain ⟨σ7, H7, S7, q7⟩ := hsp
        exact gone_ok (back S7) hN hi hln fun s8 J8 => ⟨_, _, J8, q7⟩
      | brk =>
        obtain ⟨σ7, H7, S7, q7⟩ := hsp
        exact gone_ok (back S7) hN hi hln fun s8 J8 => ⟨_, _, J8, q7⟩
      | cont =>
        obtain ⟨σ7, H7, S7, q7⟩ := hsp
        exact gone_ok (back S7) hN hi hln fun s8 J8 => ⟨_, _, J8, q7⟩
      | ret u =>
        obtain ⟨v7, σ7, H7, S7, r7, q7⟩ := hsp
        exact gone_ok (back S7) hN hi hln fun s8 J8 => ⟨_, _, _, J8, r7, q7⟩
    | false =>
      refine wpAny_handleBy_nil ?_
      obtain ⟨k1, k2, k3, oe, vs, T, oT, ts', he, hz, hd, h1, hr⟩ := id fl4
      unfold PySem.passOn
      refine wpAny_bind (wpAny_field he hd h1 ?_)
      rw [if_neg (by simp : ¬ ((Value.ref T == Value.none) = true))]
      have fin : wpAny (model X.prog X.w) X.A (setFlight (.ref a) X.env.frame) (fun _ s5 => wpAny (model X.prog X.w) X.A (throw (.ref a) : Sem Flow) (SP X pins D) X.xe s5) X.xe { s' with heap := h4 } := by
        rw [hf]
        refine HandSPX.setFlight_upZ fl4 fun h5 hh5 up5 => wpAny_throw (tk _ _ ?_)
        exact ⟨a, B, sI, pins, σ', H', cls, d, rfl, J, nb, (up.trans up3).trans ((Heap.UpToSlots.of_keeps k4).trans up5), .inr (.inr (by rw [hs]; exact hh5)), na, os, ag, hno rfl⟩
      first
        | exact wpAny_bind (wpAny_pure (wpAny_bind fin))
        | exact wpAny_bind fin
  · cases f with
    | next =>
      obtain ⟨σ', H', J', q⟩ := hsp
      exact wpAny_execs_nil ⟨σ', H', J'.ofTry ok, q⟩
    | brk =>
      obtain ⟨σ', H', J', q⟩ := hsp
      exact ⟨σ', H', J'.ofTry ok, q⟩
    | cont =>
      obtain ⟨σ', H', J', q⟩ := hsp
      exact ⟨σ', H', J'.ofTry ok, q⟩
    | ret u =>
      obtain ⟨v, σ', H', J', r, q⟩ := hsp
      exact ⟨v, σ', H', J'.ofTry ok, r, q⟩
end
end Xk
set_option Elab.async false
set_option linter.all false
set_option maxRecDepth 100000
set_option maxHeartbeats 4000000
set_option pp.maxSteps 400
set_option pp.deepTerms false
namespace Xk
open PySem PySem.Spec PyProof.Rows L2
/-- what an own exception class says, so that its kept instances are read and asked -/
structure XcC (K : PySem.W.Frag) (C : Addr) : Prop where
  cl : (PySem.W.clsIn K C).isSome = true
  ga : PySem.W.findIn K (.ref C) "__getattribute__" = some (some (.builtin "BaseException.__getattribute__"))
  gg : PySem.W.findIn K (.ref C) "__getattr__" = some none
  sb : PySem.W.subIn K (.ref C) (.type "BaseException") = some true
  hd : PySem.W.hasDictIn K C = true
  ha : PySem.W.findIn K (.ref C) "__class__" = some (some (.builtin "object.__class__"))
  hn : PySem.W.specialIn K (.builtin "object.__class__") "__get__" = some (some (.builtin "getset_descriptor.__get__"))
  ht : PySem.W.takesIn K (.builtin "object.__class__") = some true
  hm : PySem.W.mroIn K C (.type "object") = some true
/-- a kept exception of the class at C with the fields fs -/
def Kept (H : Hp) (a C : Addr) (fs : List (Str × V)) : Prop := ∃ d, H a = some (ExK (.ref C) (some d) a) ∧ H d = some (.xd fs)
theorem Kept.same {H H' : Hp} {a C : Addr} {fs : List (Str × V)} (k : Kept H a C fs) (s : L2.Same H H') : Kept H' a C fs := by
  obtain ⟨d, e1, e2⟩ := k
  exact ⟨d, s _ _ e1, s _ _ e2⟩
section
variable {X : Cx} {pins : List (Addr × Obj)} {σ : L2.St} {H : Hp} {s : Shared}
theorem Kept.inst {a C : Addr} {fs : List (Str × V)} (I : Inv X pins σ H s) (k : Kept H a C fs) :
    ∃ (oe od : Obj) (mA : Str → Option Value), PySem.W.InstAt s.heap a oe C (some od) ∧ (∀ n, PySem.W.lookIn n od = some (mA n)) ∧ ∀ f, RelO (fs.lookup f) (mA f) := by
  obtain ⟨d, e1, e2⟩ := k
  obtain ⟨oe, he, hz, vs, hv⟩ := exK_at I.hok e1
  have hx : ObjOk X.prog X.w H s.heap d (.xd fs) := I.hok d _ e2
  obtain ⟨mA, hns, hr⟩ := hx
  obtain ⟨od, ho, hl⟩ := lookIn_ns hns
  refine ⟨oe, od, mA, ⟨he, hz.1, by unfold PySem.W.notCls; rw [hv] <;> rfl, by rw [hz.2]; exact ho⟩, hl, hr⟩
end
/-- e.f of a kept exception -/
def tKf (C : Addr) (f : Str) (te : TE) : TE := fun σ H Q => te σ H fun x H1 => ∃ (a : Addr) (fs : List (Str × V)) (v : V), x = .ref a ∧ Kept H1 a C fs ∧ fs.lookup f = some v ∧ Q v H1
theorem pe_kf {X : Cx} {C : Addr} {e : Expr} {te : TE} {pos : Pos} {n : Str} (T : XcC X.K C) (hno : PySem.W.findIn X.K (.ref C) n = some none) (he : PE X e te)
    (hb : attributeBase e n X.env (eval e X.env) = eval e X.env := by rfl) : PE X (.Attribute e n pos) (tKf C n te) := by
  refine ⟨fun pins s σ H Q I h => attr_of hb (thn (he.run pins s σ H _ I h) fun u s1 z => ?_)⟩
  obtain ⟨x, H1, I1, rx, a, fs, v, ex, k, l, q⟩ := z
  subst ex
  obtain rfl : u = Value.ref a := rx
  obtain ⟨oe, od, mA, J, hl, hr⟩ := k.inst I1
  obtain ⟨y, hy, ry⟩ := RelO.some_of (v := v) (o := mA n) (by rw [← l]; exact hr n)
  exact HandSPX.exc_get I1.kIn J T.ga T.gg T.sb (PySem.W.findObj_own T.hd hno rfl (by rw [hl, hy])) (handed_of ry) ⟨v, H1, I1.tok _, ry, q⟩
/-- isinstance(e, c), isinstance(e, (c1, ..)) of a kept exception -/
def rIsK (K : PySem.W.Frag) (C : Addr) : List V → Hp → VK → Prop := fun xs H Q => ∃ (a : Addr) (fs : List (Str × V)) (c : V) (u : Value) (b : Bool), xs = [.ref a, c] ∧ Kept H a C fs ∧ ClsV c u ∧ PySem.W.kitOne K (.ref C) u = some b ∧ Q (.bl b) H
def rIsKT (K : PySem.W.Frag) (C : Addr) : List V → Hp → VK → Prop := fun xs H Q => ∃ (a tp : Addr) (fs : List (Str × V)) (cs : List V) (us : List Value) (b : Bool), xs = [.ref a, .ref tp] ∧ Kept H a C fs ∧
  H tp = some (.tup cs) ∧ Paired ClsV cs us ∧ PySem.W.kitAny K (.ref C) us = some b ∧ Q (.bl b) H
theorem call_isK {X : Cx} {C : Addr} (T : XcC X.K C) : CallR X (.builtin "isinstance") (rIsK X.K C) := by
  intro pins s σ H xs us Q I r h
  obtain ⟨a, fs, c, u, b, rfl, k, hc, e, q⟩ := h
  obtain ⟨u1, u2, rfl, r1, r2⟩ := vals2 r
  have e2 := hc.eq r2
  subst e2
  cases (show u1 = Value.ref a from r1)
  obtain ⟨oe, od, mA, J, _, _⟩ := k.inst I
  exact PySem.W.kia_one (PySem.W.kitx_exc (ox := oe) (od := some od) T.cl T.ga T.gg T.sb T.ha T.hn T.ht T.hm) I.kIn J e (fun z => nomatch z) fun tk => ⟨.bl b, H, I.tok tk, rfl, q⟩
theorem call_isKT {X : Cx} {C : Addr} (T : XcC X.K C) : CallR X (.builtin "isinstance") (rIsKT X.K C) := by
  intro pins s σ H xs us Q I r h
  obtain ⟨a, tp, fs, cs, ws, b, rfl, k, hT, hc, e, q⟩ := h
  obtain ⟨u1, u2, rfl, r1, r2⟩ := vals2 r
  cases (show u1 = Value.ref a from r1)
  cases (show u2 = Value.ref tp from r2)
  obtain ⟨oe, od, mA, J, _, _⟩ := k.inst I
  have ht : ObjOk X.prog X.w H s.heap tp (.tup cs) := I.hok tp _ hT
  obtain ⟨_, its, rv, o, h1, h2, n, h3⟩ := ht
  have e3 := ClsV.all hc rv
  subst e3
  obtain ⟨oc, od2, dt, sl⟩ := o
  simp only at h2 h3
  subst h2 h3
  exact PySem.W.kia_tup (PySem.W.kitx_exc (ox := oe) (od := some od) T.cl T.ga T.gg T.sb T.ha T.hn T.ht T.hm) I.kIn J h1 e (fun z => nomatch z) fun tk => ⟨.bl b, H, I.tok tk, rfl, q⟩
/-! ### B.__init__(self, ..), B an own class over ValueError without own __init__ -/
structure BiC (K : PySem.W.Frag) (B : Addr) : Prop where
  rd : PySem.W.readsIn K B (.type "type") = true
  sp : PySem.W.specialIn K (.ref B) "__getattribute__" = some (some (.builtin "type.__getattribute__"))
  fi : PySem.W.findCls K (.ref B) (.type "type") "__init__" = some (.val (.builtin "ValueError.__init__"))
theorem pe_binit {X : Cx} {B : Addr} {x : Str} {e : Expr} {es : List Expr} {ta : TA} {p1 p2 pos : Pos} {pl : Sem Bool} (T : BiC X.K B) (gl : Gl X x) (mg : X.mg x = some (.ref B)) (ha : PA X (e :: es) ta) (hdb : (x == ("__debug__" : Str)) = false := by decide)
    (hc : eval (.Call (.Attribute (.Name x p1) "__init__" p2) (e :: es) [] pos) X.env = (do
      let ov ← eval (.Name x p1) X.env
      standAt p2.atName
      let (f, first) ← holding [ov] (getMethod ov "__init__" pl)
      callWith pos f first (backTo pos (starEach (e :: es) X.env)) (backToKw pos (keywordEach [] X.env))) := by rfl)
    (he : starEach (e :: es) X.env = (false, eval e X.env) :: starEach es X.env := by rfl) (hpl : (backTo pos (starEach es X.env)).any (·.1) = false := by rfl) :
    PE X (.Call (.Attribute (.Name x p1) "__init__" p2) (e :: es) [] pos) (tVeI X.K ta) := by
  refine ⟨fun pins s σ H Q I h => PySem.W.methodCall_KW (ld_glob I gl mg ?_ hdb) hc⟩
  refine PySem.W.method_cls I.kIn T.sp (PySem.W.cls_value I.kIn T.rd T.fi (by decide +kernel) ?_)
  show wpAny _ _ (callWith pos (Value.builtin "ValueError.__init__") [] (backTo pos (starEach (e :: es) X.env)) []) _ _ _
  refine PyProof.Rows.callWith_method1 (thn (ha.run pos pins _ σ H _ (I.tok _) h) fun us s1 z => ?_) he hpl
  obtain ⟨vs, H1, I1, r1, a, C, ws, ev, hl, Tx, ea, q⟩ := z
  subst ev
  cases r1 with
  | @cons _ u0 _ ur ra rw' =>
    obtain rfl : u0 = Value.ref a := ra
    refine oinit_ok Tx I1 ea ?_ fun s' J => ⟨.non, H1, J, rfl, q⟩
    rw [← Paired.length rw', sizeLine_eq]
    omega
/-! ### calls in a try's body: what is raised is wished for at the slots -/
section
variable {X : Cx} {CX : CXT} {k n : Nat} {f C : Addr} {fd : FuncData} {ps ks : List Str} {sp : Sp} {dvs : List V} {ds : List Value} {E : L2.St → XK} {x : Str} {p pos : Pos} {e : Expr} {es : List Expr} {kws : List Keyword} {t tk : TA}
  {g : List Value → List Value → List Value} {gV : List V → List V → List V}
def tMakeS (C : Addr) (sp : Sp) (dvs : List V) (E : L2.St → XK) (t : TA) : TE := fun σ H Q => t σ H fun vs H1 => ∀ x dx, H1 x = none → H1 dx = none → dx ≠ x →
  sp (.ref x :: (vs ++ dvs)) (upd (upd H1 dx (.own x)) x (.ins C dx [])) (fun v H2 => v = .non ∧ Q (.ref x) H2) (E σ)
theorem pe_makeS (M : Mk X.K C f) (F : FnOk X.prog X.w X.K X.mg X.base CX k f fd ps sp) (room : Room (k + 1) X.A) (gl : Gl X x) (mg : X.mg x = some (.ref C)) (bd : Binds X.K fd ps ds) (rd : Vals dvs ds) (px : ∀ σ, PassesAt CX X σ (E σ))
    (ha : PA X (e :: es) t) (hdb : (x == ("__debug__" : Str)) = false := by decide) (he : starEach (e :: es) X.env = (false, eval e X.env) :: starEach es X.env := by rfl) (hpl : (backTo pos (starEach es X.env)).any (·.1) = false := by rfl) :
    PE X (.Call (.Name x p) (e :: es) [] pos) (tMakeS C sp dvs E t) := by
  refine ⟨fun pins s σ H Q I h => wpAny_Call_Name_kw (ld_glob I gl mg ?_ hdb)⟩
  refine PySem.W.callWith_K (h₀ := X.base) I.ok.mod.kin M.kp (thn (ha.run pos pins s σ H _ I h) fun us s1 z => ?_) he hpl
  obtain ⟨vs, H1, I1, r, q⟩ := z
  refine ⟨I1.kIn, ?_⟩
  have q1 := q (s1.heap.objs.size + 1) s1.heap.objs.size (I1.hok.fresh (Nat.le_succ _)) (I1.hok.fresh (Nat.le_refl _)) (Nat.ne_of_lt (Nat.lt_succ_self _))
  have I2 := Inv.made (C := C) I1
  have r2 : Vals (V.ref (s1.heap.objs.size + 1) :: (vs ++ dvs)) (Value.ref (s1.heap.objs.size + 1) :: (us ++ ds)) := .cons rfl (r.append rd)
  have many : (Value.ref (s1.heap.objs.size + 1) :: us ++ ds).length = ps.length := (r2.length.symm.trans (F.len _ _ _ _ q1))
  refine wpAny_call (make_map (f := f) I1.kIn M.makes M.init (beq_iff_eq.mp M.fn) (codeAny_mono (F.run _ X.stack _ _ ⟨Value.ref (s1.heap.objs.size + 1) :: us, []⟩ (Value.ref (s1.heap.objs.size + 1) :: (us ++ ds)) _ _ (E σ)
    (room.make C us []) (I2.env0.make C us []) (bd _ (Value.ref (s1.heap.objs.size + 1) :: us) I2.kIn many) r2 q1) fun r s' z => ?_))
  cases r with
  | error e => exact px σ pins _ _ e s' I2 z
  | ok fl =>
    cases fl with
    | ret u =>
      obtain ⟨v, H', I3, rv, ev, q3⟩ := I2.after z
      subst ev
      exact ⟨rv, ⟨V.ref (s1.heap.objs.size + 1), H', I3, rfl, q3⟩⟩
    | next => exact False.elim z
    | brk => exact False.elim z
    | cont => exact False.elim z
def tMakeKS (C : Addr) (m : Nat) (sp : Sp) (gV : List V → List V → List V) (E : L2.St → XK) (tk : TA) : TE := fun σ H Q => tk σ H fun zs H2 => zs.length = m ∧
  ∀ x dx, H2 x = none → H2 dx = none → dx ≠ x → sp (gV [.ref x] zs) (upd (upd H2 dx (.own x)) x (.ins C dx [])) (fun v H3 => v = .non ∧ Q (.ref x) H3) (E σ)
theorem pe_makeKS (M : Mk X.K C f) (F : FnOk X.prog X.w X.K X.mg X.base CX k f fd ps sp) (room : Room (k + 1) X.A) (gl : Gl X x) (mg : X.mg x = some (.ref C)) (kb : KBn X.K fd ps 1 ks g gV) (px : ∀ σ, PassesAt CX X σ (E σ)) (pk : PK X kws tk)
    (hall : (backToKw pos (keywordEach kws X.env)).all (·.1.isSome) = true := by rfl) (hks : (backToKw pos (keywordEach kws X.env)).filterMap (·.1) = ks := by rfl) (hdb : (x == ("__debug__" : Str)) = false := by decide)
    (hpl : ((backTo pos (starEach [] X.env)).any (·.1) || (backToKw pos (keywordEach kws X.env)).any (·.1.isNone)) = false := by rfl) :
    PE X (.Call (.Name x p) [] kws pos) (tMakeKS C ks.length sp gV E tk) := by
  refine ⟨fun pins s σ H Q I h => wpAny_Call_Name_kw (ld_glob I gl mg ?_ hdb)⟩
  refine PySem.W.callWith_KW0 (h₀ := X.base) I.ok.mod.kin M.kp hall (thn (pk.run pos pins s σ H _ I h) fun ws s1 z => ?_) hpl
  obtain ⟨zs, H1, I1, rz, l2, q⟩ := z
  refine ⟨I1.kIn, ?_⟩
  rw [hks]
  have q1 := q (s1.heap.objs.size + 1) s1.heap.objs.size (I1.hok.fresh (Nat.le_succ _)) (I1.hok.fresh (Nat.le_refl _)) (Nat.ne_of_lt (Nat.lt_succ_self _))
  have I2 := Inv.made (C := C) I1
  have r1 : Vals [V.ref (s1.heap.objs.size + 1)] [Value.ref (s1.heap.objs.size + 1)] := .cons rfl .nil
  have r2 := kb.rel r1 rz
  refine wpAny_call (make_map (f := f) I1.kIn M.makes M.init (beq_iff_eq.mp M.fn) (codeAny_mono (F.run _ X.stack _ _ ⟨[Value.ref (s1.heap.objs.size + 1)], ks.zip ws⟩ (g [Value.ref (s1.heap.objs.size + 1)] ws) _ _ (E σ)
    (room.make C [] (ks.zip ws)) (I2.env0.make C [] (ks.zip ws)) (kb.to _ [Value.ref (s1.heap.objs.size + 1)] ws I2.kIn rfl (rz.length.symm.trans l2)) r2 q1) fun r s' z => ?_))
  cases r with
  | error e => exact px σ pins _ _ e s' I2 z
  | ok fl =>
    cases fl with
    | ret u =>
      obtain ⟨v, H', I3, rv, ev, q3⟩ := I2.after z
      subst ev
      exact ⟨rv, ⟨V.ref (s1.heap.objs.size + 1), H', I3, rfl, q3⟩⟩
    | next => exact False.elim z
    | brk => exact False.elim z
    | cont => exact False.elim z
def tCallKS (m : Nat) (sp : Sp) (gV : List V → List V → List V) (E : L2.St → XK) (tk : TA) : TE := fun σ H Q => tk σ H fun zs H2 => zs.length = m ∧ sp (gV [] zs) H2 Q (E σ)
theorem pe_callKS (F : FnOk X.prog X.w X.K X.mg X.base CX k f fd ps sp) (room : Room k X.A) (gl : Gl X x) (mg : X.mg x = some (.ref f)) (kp : PySem.W.keepIn X.K (.ref f) = true) (kb : KBn X.K fd ps 0 ks g gV) (px : ∀ σ, PassesAt CX X σ (E σ)) (pk : PK X kws tk)
    (hall : (backToKw pos (keywordEach kws X.env)).all (·.1.isSome) = true := by rfl) (hks : (backToKw pos (keywordEach kws X.env)).filterMap (·.1) = ks := by rfl) (hdb : (x == ("__debug__" : Str)) = false := by decide)
    (hpl : ((backTo pos (starEach [] X.env)).any (·.1) || (backToKw pos (keywordEach kws X.env)).any (·.1.isNone)) = false := by rfl) :
    PE X (.Call (.Name x p) [] kws pos) (tCallKS ks.length sp gV E tk) := by
  refine ⟨fun pins s σ H Q I h => wpAny_Call_Name_kw (ld_glob I gl mg ?_ hdb)⟩
  refine PySem.W.callWith_KW0 (h₀ := X.base) I.ok.mod.kin kp hall (thn (pk.run pos pins s σ H _ I h) fun ws s1 z => ?_) hpl
  obtain ⟨zs, H1, I1, rz, l2, q⟩ := z
  refine ⟨I1.kIn, ?_⟩
  rw [hks]
  have rn : Vals [] [] := .nil
  have r2 := kb.rel rn rz
  refine wpAny_call (codeAny_mono (F.run X.A X.stack s1 H1 ⟨[], ks.zip ws⟩ (g [] ws) (gV [] zs) Q (E σ) room I1.env0 (kb.to s1 [] ws I1.kIn rfl (rz.length.symm.trans l2)) r2 q) fun r s' z => ?_)
  cases r with
  | error e => exact px σ pins _ _ e s' I1 z
  | ok fl =>
    cases fl with
    | ret u => exact I1.after z
    | next => exact False.elim z
    | brk => exact False.elim z
    | cont => exact False.elim z
end
end Xk
set_option Elab.async false
set_option linter.all false
set_option maxRecDepth 100000
set_option maxHeartbeats 4000000
set_option pp.maxSteps 400
set_option pp.deepTerms false
/-! Things of any kind: texts, numbers, truths, None, and lists, tuples, dicts of these, at any depth. -/
namespace Az
open PySem PySem.Spec PyProof.Rows L2
def keyD : Key → PyData
  | .inl i => .int i
  | .inr x => .str x
mutual
inductive Dz (K : PySem.W.Frag) (H : Hp) : V → PyData → Prop
  | non : Dz K H .non .none
  | bl (b : Bool) : Dz K H (.bl b) (.bool b)
  | int (i : Int) : Dz K H (.int i) (.int i)
  | str (x : Str) : Dz K H (.str x) (.str x)
  | lst {a : Addr} {xs : List V} {ds : List PyData} : H a = some (.lst xs) → a ≠ sysModules → DzAll K H xs ds → Dz K H (.ref a) (.list ds)
  | tup {a : Addr} {xs : List V} {ds : List PyData} : H a = some (.tup xs) → DzAll K H xs ds → Dz K H (.ref a) (.tuple ds)
  | dct {a : Addr} {kvs : List (Key × V)} {ds : List (PyData × PyData)} : H a = some (.dK kvs) → DzKv K H kvs ds → Dz K H (.ref a) (.dict ds)
inductive DzAll (K : PySem.W.Frag) (H : Hp) : List V → List PyData → Prop
  | nil : DzAll K H [] []
  | cons {v : V} {vs : List V} {d : PyData} {ds : List PyData} : Dz K H v d → DzAll K H vs ds → DzAll K H (v :: vs) (d :: ds)
inductive DzKv (K : PySem.W.Frag) (H : Hp) : List (Key × V) → List (PyData × PyData) → Prop
  | nil : DzKv K H [] []
  | cons {k : Key} {v : V} {kvs : List (Key × V)} {d : PyData} {ds : List (PyData × PyData)} : Dz K H v d → DzKv K H kvs ds → DzKv K H ((k, v) :: kvs) ((keyD k, d) :: ds)
end
section
variable {K : PySem.W.Frag} {H H' : Hp}
mutual
/-- what is read of a thing stays while its objects do -/
theorem Dz.keep (s : ∀ b o, H b = some o → (∀ x, o ≠ .own x) → H' b = some o) : ∀ {v : V} {d : PyData}, Dz K H v d → Dz K H' v d
  | _, _, .non => .non
  | _, _, .bl b => .bl b
  | _, _, .int i => .int i
  | _, _, .str x => .str x
  | _, _, .lst e n r => .lst (s _ _ e (fun _ z => by cases z)) n (DzAll.keep s r)
  | _, _, .tup e r => .tup (s _ _ e (fun _ z => by cases z)) (DzAll.keep s r)
  | _, _, .dct e r => .dct (s _ _ e (fun _ z => by cases z)) (DzKv.keep s r)
theorem DzAll.keep (s : ∀ b o, H b = some o → (∀ x, o ≠ .own x) → H' b = some o) : ∀ {v : List V} {d : List PyData}, DzAll K H v d → DzAll K H' v d
  | _, _, .nil => .nil
  | _, _, .cons h r => .cons (Dz.keep s h) (DzAll.keep s r)
theorem DzKv.keep (s : ∀ b o, H b = some o → (∀ x, o ≠ .own x) → H' b = some o) : ∀ {v : List (Key × V)} {d : List (PyData × PyData)}, DzKv K H v d → DzKv K H' v d
  | _, _, .nil => .nil
  | _, _, .cons h r => .cons (Dz.keep s h) (DzKv.keep s r)
end
theorem Dz.same {v : V} {d : PyData} (h : Dz K H v d) (s : L2.Same H H') : Dz K H' v d := h.keep fun b o e _ => s b o e
theorem DzAll.same {v : List V} {d : List PyData} (h : DzAll K H v d) (s : L2.Same H H') : DzAll K H' v d := h.keep fun b o e _ => s b o e
/-- the kind of a thing -/
def kindD : PyData → String
  | .none => "NoneType"
  | .bool _ => "bool"
  | .int _ => "int"
  | .str _ => "str"
  | .list _ => "list"
  | .tuple _ => "tuple"
  | .dict _ => "dict"
theorem Dz.ty {v : V} {d : PyData} (h : Dz K H v d) : TyX K H v (.type (kindD d)) := by
  cases h with
  | non => exact .base .non
  | bl b => exact .base (.bl b)
  | int i => exact .base (.int i)
  | str x => exact .base (.str x)
  | lst e _ _ => exact .base (.lst e)
  | tup e _ => exact .base (.tup e)
  | dct e _ => exact .base (.dK e)
end
section
variable {X : Cx} {pins : List (Addr × Obj)} {σ : L2.St} {H : Hp} {s : Shared}
theorem pairs_keys {P : Program} {w : World} : ∀ {es : List DictEntry} {vs : List (Key × Value)}, PySem.Pairs (mixKind P w) es vs → ∃ as, ReadsAll s.heap (es.map (·.key)) (vs.map fun p => keyD p.1) as ∧ as = []
  | _, _, .nil => ⟨[], .nil, rfl⟩
  | e :: es, (k, u) :: vs, .cons h1 h2 r => by
    obtain ⟨as, q, rfl⟩ := pairs_keys r
    rcases keyIs_shape (show keyIs k e.key = true from h1) with ⟨i, t, rfl, ek⟩ | ⟨x, t, rfl, ek⟩
    · refine ⟨[] ++ [], .cons ?_ q, rfl⟩
      show Reads s.heap e.key (.int i) []
      rw [ek]
      exact .int i t
    · refine ⟨[] ++ [], .cons ?_ q, rfl⟩
      show Reads s.heap e.key (.str x) []
      rw [ek]
      exact .str x t
theorem pairs_vals {P : Program} {w : World} : ∀ {es : List DictEntry} {vs : List (Key × Value)}, PySem.Pairs (mixKind P w) es vs → es.map (·.val) = vs.map (·.2)
  | _, _, .nil => rfl
  | e :: es, (k, u) :: vs, .cons h1 h2 r => by
    rw [List.map_cons, List.map_cons, pairs_vals r, h2]
mutual
theorem Dz.reads (I : Inv X pins σ H s) : ∀ (d : PyData) (v : V) (u : Value), Dz X.K H v d → RelV v u → ∃ as, Reads s.heap u d as ∧ sysModules ∉ as
  | .none, _, _, h, r => by
    cases h
    cases r
    exact ⟨[], .none, by simp⟩
  | .bool b, _, _, h, r => by
    cases h
    cases r
    exact ⟨[], .bool b, by simp⟩
  | .int i, _, _, h, r => by
    cases h
    obtain ⟨t, rfl⟩ := r
    exact ⟨[], .int i t, by simp⟩
  | .str x, _, _, h, r => by
    cases h
    obtain ⟨t, rfl⟩ := r
    exact ⟨[], .str x t, by simp⟩
  | .list ds, _, _, h, r => by
    cases h with
    | @lst a xs _ e ne ha =>
      cases r
      have ok : ObjOk X.prog X.w H s.heap a (.lst xs) := I.hok a _ e
      obtain ⟨_, its, n, rv, eh⟩ := ok
      obtain ⟨as, q, na⟩ := DzAll.reads I ds xs its ha rv
      refine ⟨a :: as, .list eh rfl rfl (by simpa using q), fun m => ?_⟩
      rcases List.mem_cons.mp m with z | z
      · exact ne z.symm
      · exact na z
  | .tuple ds, _, _, h, r => by
    cases h with
    | @tup a xs _ e ha =>
      cases r
      have ok : ObjOk X.prog X.w H s.heap a (.tup xs) := I.hok a _ e
      obtain ⟨_, its, rv, o, eh, ec, n, ed⟩ := ok
      obtain ⟨as, q, na⟩ := DzAll.reads I ds xs its ha rv
      exact ⟨as, .tuple eh ec ed (by simpa using q), na⟩
  | .dict ds, _, _, h, r => by
    cases h with
    | @dct a kvs _ e ha =>
      cases r
      obtain ⟨_, ne, vs, rel, o, es, ep, eh, ex, ed, _, pr, _⟩ := dk_of I.hok e
      obtain ⟨as, q1, rfl⟩ := pairs_keys (s := s) pr
      obtain ⟨bs, q2, nb⟩ := DzKv.reads I ds kvs vs ha rel
      have hk : (vs.map fun p => keyD p.1) = ds.map (·.1) := DzKv.keys ha rel
      rw [hk] at q1
      refine ⟨a :: [] ++ bs, .dict eh ex.1 ed q1 (by rw [pairs_vals pr]; exact q2), fun m => ?_⟩
      rcases List.mem_cons.mp m with z | z
      · rw [← z] at ne
        simp at ne
      · exact nb z
theorem DzAll.reads (I : Inv X pins σ H s) : ∀ (ds : List PyData) (vs : List V) (us : List Value), DzAll X.K H vs ds → Vals vs us → ∃ as, ReadsAll s.heap us ds as ∧ sysModules ∉ as
  | [], _, _, h, r => by
    cases h
    cases r
    exact ⟨[], .nil, by simp⟩
  | d :: ds, _, _, h, r => by
    cases h with
    | cons h1 h2 =>
      cases r with
      | cons r1 r2 =>
        obtain ⟨as, q1, n1⟩ := Dz.reads I d _ _ h1 r1
        obtain ⟨bs, q2, n2⟩ := DzAll.reads I ds _ _ h2 r2
        exact ⟨as ++ bs, .cons q1 q2, fun m => (List.mem_append.mp m).elim n1 n2⟩
theorem DzKv.reads (I : Inv X pins σ H s) : ∀ (ds : List (PyData × PyData)) (kvs : List (Key × V)) (vs : List (Key × Value)), DzKv X.K H kvs ds → KV kvs vs → ∃ as, ReadsAll s.heap (vs.map (·.2)) (ds.map (·.2)) as ∧ sysModules ∉ as
  | [], _, _, h, r => by
    cases h
    cases r
    exact ⟨[], .nil, by simp⟩
  | (_, d) :: ds, _, _, h, r => by
    cases h with
    | cons h1 h2 =>
      cases r with
      | cons r1 r2 =>
        obtain ⟨as, q1, n1⟩ := Dz.reads I d _ _ h1 r1.2
        obtain ⟨bs, q2, n2⟩ := DzKv.reads I ds _ _ h2 r2
        exact ⟨as ++ bs, .cons q1 q2, fun m => (List.mem_append.mp m).elim n1 n2⟩
theorem DzKv.keys {K : PySem.W.Frag} : ∀ {ds : List (PyData × PyData)} {kvs : List (Key × V)} {vs : List (Key × Value)}, DzKv K H kvs ds → KV kvs vs → (vs.map fun p => keyD p.1) = ds.map (·.1)
  | [], _, _, h, r => by
    cases h
    cases r
    rfl
  | (_, d) :: ds, _, _, h, r => by
    cases h with
    | cons h1 h2 =>
      cases r with
      | cons r1 r2 =>
        rw [List.map_cons, List.map_cons, DzKv.keys h2 r2, ← r1.1]
end
/-- repr of a thing -/
def rReprZ (K : PySem.W.Frag) : List V → Hp → VK → Prop := fun xs H Q => ∃ (v : V) (d : PyData), xs = [v] ∧ Dz K H v d ∧ d.showable = true ∧ d.depth ≤ 60 ∧ d.shown.length ≤ sizeLine ∧ Q (.str d.shown) H
theorem cr_reprZ {k : Nat} (quiet : X.A.guards = some []) (room : Room k X.A) : CallR X (.builtin "repr") (rReprZ X.K) := by
  intro pins s σ H xs us Q I r h
  obtain ⟨v, d, rfl, hd, hs, hp, hz, q⟩ := h
  obtain ⟨u, rfl, rx⟩ := vals1 r
  have hu := room.units
  cases hd with
  | non =>
    cases rx
    exact PySem.P.repr_of_none ⟨.str _, H, I.tok _, ⟨_, rfl⟩, q⟩
  | bl b =>
    cases rx
    exact PySem.P.repr_of_bool ⟨.str _, H, I.tok _, ⟨_, rfl⟩, q⟩
  | int i =>
    obtain ⟨t, rfl⟩ := rx
    exact PySem.P.repr_of_int (by simpa [PyData.showable] using hs) ⟨.str _, H, I.tok _, ⟨_, rfl⟩, q⟩
  | str x =>
    obtain ⟨t, rfl⟩ := rx
    exact PySem.P.repr_of_str ⟨.str _, H, I.tok _, ⟨_, rfl⟩, q⟩ hz
  | lst e n ha =>
    obtain ⟨as, rd, na⟩ := Dz.reads I _ _ u (.lst e n ha) rx
    cases rx
    exact repr_of_reads' rd hs (fun _ => na) quiet (by omega) (fun _ _ z => z) (fun h' u tk kept => ⟨.str _, H, I.kept kept, ⟨u, rfl⟩, q⟩) hz
  | tup e ha =>
    obtain ⟨as, rd, na⟩ := Dz.reads I _ _ u (.tup e ha) rx
    cases rx
    exact repr_of_reads' rd hs (fun _ => na) quiet (by omega) (fun _ _ z => z) (fun h' u tk kept => ⟨.str _, H, I.kept kept, ⟨u, rfl⟩, q⟩) hz
  | dct e ha =>
    obtain ⟨as, rd, na⟩ := Dz.reads I _ _ u (.dct e ha) rx
    cases rx
    exact repr_of_reads' rd hs (fun _ => na) quiet (by omega) (fun _ _ z => z) (fun h' u tk kept => ⟨.str _, H, I.kept kept, ⟨u, rfl⟩, q⟩) hz
/-- a list of written items: new, and no table of modules -/
def tLstZ (t : TA) : TE := fun σ H Q => t σ H fun xs H1 => xs.length ≤ sizeLine ∧ ∀ p, H1 p = none → p ≠ sysModules → Q (.ref p) (upd H1 p (.lst xs))
theorem pe_lstZ {es : List Expr} {t : TA} {pos : Pos} (h : PA X es t) : PE X (.List es pos) (tLstZ t) := by
  refine ⟨fun pins s σ H Q I hq => wpAny_List_spliced (thn (h.run pos pins s σ H _ I hq) fun us s1 z => ?_)⟩
  obtain ⟨xs, H1, I1, r, z, q⟩ := z
  refine ⟨by rw [← r.length]; exact z, ?_⟩
  have new : H1 s1.heap.objs.size = none := I1.hok.fresh (Nat.le_refl _)
  refine ⟨.ref s1.heap.objs.size, upd H1 s1.heap.objs.size (.lst xs), I1.laid (t' := s1.toks) (fun b u e => Heap.get?_push_of_some _ e) (Nat.le_refl _) ?_, rfl, q _ new (Nat.ne_of_gt I1.big)⟩
  exact ⟨z, us, 0, r, Heap.get?_push_size _ rfl⟩
end
end Az
namespace Az
open PySem PySem.Spec PyProof.Rows L2
/-- a thing that is shown in n signs at most, at most k deep -/
structure Nice (d : PyData) (k n : Nat) : Prop where
  sh : d.showable = true
  dp : d.depth ≤ k
  sz : d.shown.length ≤ n
theorem Nice.mono {d : PyData} {k k' n n' : Nat} (h : Nice d k n) (hk : k ≤ k') (hn : n ≤ n') : Nice d k' n' := ⟨h.sh, Nat.le_trans h.dp hk, Nat.le_trans h.sz hn⟩
theorem nice_int {i : Int} {n : Nat} (h : i.natAbs.log2 < 1920) (hn : (Str.ofString (toString i)).length ≤ n) : Nice (.int i) 0 n :=
  ⟨by simpa [PyData.showable] using h, by simp [PyData.depth], by simpa [PyData.shown] using hn⟩
theorem nice_none : Nice .none 0 4 := ⟨by simp [PyData.showable], by simp [PyData.depth], by simp only [PyData.shown]; decide +kernel⟩
theorem nice_bool (b : Bool) : Nice (.bool b) 0 5 := ⟨by simp [PyData.showable], by simp [PyData.depth], by simp only [PyData.shown]; cases b <;> decide +kernel⟩
theorem nice_str {x : Str} {n : Nat} (h : (reprText x).length ≤ n) : Nice (.str x) 0 n := ⟨by simp [PyData.showable], by simp [PyData.depth], by simpa [PyData.shown] using h⟩
theorem list_le : ∀ ts : List Str, (listText ts).length ≤ piled ts + 2
  | [] => by decide +kernel
  | t :: ts => by
    have e : (textFrom 0 "[" (t :: ts)).length = 1 + t.length + piled ts := by
      show (textFrom 1 (("[" : Str) ++ ((if 0 > 0 then ", " else "" : String) : Str) ++ t) ts).length = _
      rw [textFrom_length_pos ts 1 _ (by decide), strLen_append, strLen_append]
      rfl
    unfold listText
    rw [strLen_append, e, piled_cons]
    show 1 + t.length + piled ts + 1 ≤ _
    omega
theorem dict_le (ps : List Str) : (dictText ps).length ≤ piled ps + 2 := by
  unfold dictText
  rw [strLen_append, strLen_append]
  show 1 + (Str.join ", " ps).length + 1 ≤ _
  cases ps with
  | nil => decide
  | cons p r =>
    have := join_length_add (p :: r) (by simp)
    omega
theorem nice_tup1 {d : PyData} {k n : Nat} (h : Nice d k n) : Nice (.tuple [d]) (k + 1) (n + 4) := by
  refine ⟨by simp [PyData.showable, PyData.showableAll, h.sh], ?_, ?_⟩
  · simp only [PyData.depth, PyData.depthAll]
    have := h.dp
    omega
  · simp only [PyData.shown, PyData.shownAll]
    have a := fmt_text [d.shown]
    simp only [piled_cons, piled_nil] at a
    have := h.sz
    omega
theorem nice_lst1 {d : PyData} {k n : Nat} (h : Nice d k n) : Nice (.list [d]) (k + 1) (n + 4) := by
  refine ⟨by simp [PyData.showable, PyData.showableAll, h.sh], ?_, ?_⟩
  · simp only [PyData.depth, PyData.depthAll]
    have := h.dp
    omega
  · simp only [PyData.shown, PyData.shownAll]
    have a := list_le [d.shown]
    simp only [piled_cons, piled_nil] at a
    have := h.sz
    omega
theorem nice_dct1 {d : PyData} {k n m : Nat} {x : Str} (hx : (reprText x).length ≤ m) (h : Nice d k n) : Nice (.dict [(.str x, d)]) (k + 1) (n + m + 6) := by
  refine ⟨by simp [PyData.showable, PyData.showableKv, h.sh], ?_, ?_⟩
  · simp only [PyData.depth, PyData.depthKv]
    have := h.dp
    omega
  · simp only [PyData.shown, PyData.shownKv]
    have a := dict_le [reprText x ++ ": " ++ d.shown]
    simp only [piled_cons, piled_nil, strLen_append] at a
    have c : ((": " : Str)).length = 2 := by decide +kernel
    have := h.sz
    omega
theorem nice_tup0 : Nice (.tuple []) 1 2 := ⟨by simp [PyData.showable, PyData.showableAll], by simp [PyData.depth, PyData.depthAll], by simp only [PyData.shown, PyData.shownAll]; decide +kernel⟩
theorem nice_lst0 : Nice (.list []) 1 2 := ⟨by simp [PyData.showable, PyData.showableAll], by simp [PyData.depth, PyData.depthAll], by simp only [PyData.shown, PyData.shownAll]; decide +kernel⟩
theorem nice_dct0 : Nice (.dict []) 1 2 := ⟨by simp [PyData.showable, PyData.showableKv], by simp [PyData.depth, PyData.depthKv], by simp only [PyData.shown, PyData.shownKv]; decide +kernel⟩
end Az
set_option Elab.async false
set_option linter.all false
set_option maxRecDepth 100000
set_option maxHeartbeats 4000000
set_option pp.maxSteps 400
set_option pp.deepTerms false
namespace Az
open PySem PySem.Spec PyProof.Rows L2
/-! ### texts of signs that have a number of eight places -/
def Asc (x : Str) : Prop := ∀ c ∈ x.cps.toList, c < 16 ^ 8
theorem asc_str (s : String) : Asc (Str.ofString s) := fun c hc => by
  rw [Str.ofString_eq_toList] at hc
  simp only [List.mem_map] at hc
  obtain ⟨k, _, rfl⟩ := hc
  exact Nat.lt_of_lt_of_le (UInt32.toNat_lt k.val) (by decide)
theorem Asc.app {x y : Str} (h1 : Asc x) (h2 : Asc y) : Asc (x ++ y) := fun c hc => by
  rw [Str.cps_append, Array.toList_append, List.mem_append] at hc
  exact hc.elim (h1 c) (h2 c)
theorem asc_hex (l : List Char) (n : Nat) : ∀ c ∈ List.replicate n 48 ++ l.map Char.toNat, c < 16 ^ 8 := fun c hc => by
  rcases List.mem_append.mp hc with h | h
  · rw [(List.mem_replicate.mp h).2]
    decide
  · obtain ⟨k, _, rfl⟩ := List.mem_map.mp h
    exact Nat.lt_of_lt_of_le (UInt32.toNat_lt k.val) (by decide)
theorem asc_char {q c : Nat} (hc : c < 16 ^ 8) : ∀ d ∈ Builtin.Str.reprChar q c, d < 16 ^ 8 := fun d hd => by
  unfold Builtin.Str.reprChar at hd
  dsimp only at hd
  have two : ∀ a : Nat, a < 16 ^ 8 → d ∈ [92, a] → d < 16 ^ 8 := fun a ha h => by
    simp only [List.mem_cons, List.not_mem_nil, or_false] at h
    rcases h with h | h
    · rw [h]; decide
    · rw [h]; exact ha
  have app : ∀ (a : Nat) (l : List Nat), a < 16 ^ 8 → (∀ c ∈ l, c < 16 ^ 8) → d ∈ [92, a] ++ l → d < 16 ^ 8 := fun a l ha hl h => (List.mem_append.mp h).elim (two a ha) (hl d)
  split at hd
  · exact two c hc hd
  · split at hd
    · exact two 110 (by decide) hd
    · split at hd
      · exact two 114 (by decide) hd
      · split at hd
        · exact two 116 (by decide) hd
        · split at hd
          · simp only [List.mem_cons, List.not_mem_nil, or_false] at hd
            rw [hd]
            exact hc
          · split at hd
            · exact app 120 _ (by decide) (asc_hex _ _) hd
            · split at hd
              · exact app 117 _ (by decide) (asc_hex _ _) hd
              · exact app 85 _ (by decide) (asc_hex _ _) hd
theorem asc_fold {q : Nat} : ∀ (l : List Nat) (acc : Array Nat), (∀ c ∈ l, c < 16 ^ 8) → (∀ c ∈ acc.toList, c < 16 ^ 8) → ∀ c ∈ (l.foldl (fun out c => out ++ (Builtin.Str.reprChar q c).toArray) acc).toList, c < 16 ^ 8
  | [], acc, _, h => h
  | k :: r, acc, hl, ha => by
    rw [List.foldl_cons]
    refine asc_fold r _ (fun c hc => hl c (List.mem_cons_of_mem _ hc)) fun c hc => ?_
    rw [Array.toList_append, List.mem_append] at hc
    exact hc.elim (ha c) fun h => asc_char (hl k List.mem_cons_self) c (by simpa using h)
theorem asc_quote (x : Str) : reprQuote x < 16 ^ 8 := by
  unfold reprQuote
  split <;> decide
theorem asc_repr {x : Str} (h : Asc x) : Asc (reprText x) := fun c hc => by
  unfold reprText at hc
  rw [Array.toList_push, List.mem_append, ← Array.foldl_toList] at hc
  rcases hc with hc | hc
  · refine asc_fold x.cps.toList #[reprQuote x] h (fun d hd => ?_) c hc
    have z : d = reprQuote x := by simpa using hd
    rw [z]
    exact asc_quote x
  · have z : c = reprQuote x := by simpa using hc
    rw [z]
    exact asc_quote x
theorem asc_join : ∀ ts : List Str, (∀ t ∈ ts, Asc t) → Asc (Str.join ", " ts)
  | [], _ => fun c hc => by
    have z : c ∈ (Str.empty).cps.toList := hc
    simp [Str.empty] at z
  | [x], h => h x List.mem_cons_self
  | x :: y :: r, h => ((h x List.mem_cons_self).app (asc_str ", ")).app (asc_join (y :: r) fun t ht => h t (List.mem_cons_of_mem _ ht))
theorem asc_from : ∀ (ts : List Str) (k : Nat) (acc : Str), Asc acc → (∀ t ∈ ts, Asc t) → Asc (textFrom k acc ts)
  | [], _, _, h, _ => h
  | t :: ts, k, acc, h, ht => by
    unfold textFrom
    exact asc_from ts (k + 1) _ ((h.app (asc_str _)).app (ht t List.mem_cons_self)) fun u hu => ht u (List.mem_cons_of_mem _ hu)
mutual
/-- all texts within a thing -/
def ascD : PyData → Prop
  | .none | .bool _ | .int _ => True
  | .str x => Asc x
  | .list xs | .tuple xs => ascAll xs
  | .dict kvs => ascKv kvs
def ascAll : List PyData → Prop
  | [] => True
  | x :: xs => ascD x ∧ ascAll xs
def ascKv : List (PyData × PyData) → Prop
  | [] => True
  | (k, v) :: r => ascD k ∧ ascD v ∧ ascKv r
end
mutual
theorem asc_shown : ∀ d : PyData, ascD d → Asc d.shown
  | .none, _ => asc_str "None"
  | .bool b, _ => by
    simp only [PyData.shown]
    cases b
    · exact asc_str "False"
    · exact asc_str "True"
  | .int i, _ => asc_str (toString i)
  | .str x, h => asc_repr (by simpa [ascD] using h)
  | .list xs, h => by
    simp only [PyData.shown]
    exact (asc_from _ _ _ (asc_str "[") (asc_shownAll xs (by simpa [ascD] using h))).app (asc_str "]")
  | .tuple xs, h => by
    simp only [PyData.shown]
    exact ((asc_str "(").app (asc_join _ (asc_shownAll xs (by simpa [ascD] using h)))).app (asc_str _)
  | .dict kvs, h => by
    simp only [PyData.shown]
    exact ((asc_str "{").app (asc_join _ (asc_shownKv kvs (by simpa [ascD] using h)))).app (asc_str "}")
theorem asc_shownAll : ∀ xs : List PyData, ascAll xs → ∀ t ∈ PyData.shownAll xs, Asc t
  | [], _, t, ht => by
    simp [PyData.shownAll] at ht
  | x :: xs, h, t, ht => by
    have h' : ascD x ∧ ascAll xs := by simpa [ascAll] using h
    simp only [PyData.shownAll, List.mem_cons] at ht
    rcases ht with e | e
    · rw [e]
      exact asc_shown x h'.1
    · exact asc_shownAll xs h'.2 t e
theorem asc_shownKv : ∀ xs : List (PyData × PyData), ascKv xs → ∀ t ∈ PyData.shownKv xs, Asc t
  | [], _, t, ht => by
    simp [PyData.shownKv] at ht
  | (k, v) :: xs, h, t, ht => by
    have h' : ascD k ∧ ascD v ∧ ascKv xs := by simpa [ascKv] using h
    simp only [PyData.shownKv, List.mem_cons] at ht
    rcases ht with e | e
    · rw [e]
      exact ((asc_shown k h'.1).app (asc_str ": ")).app (asc_shown v h'.2.1)
    · exact asc_shownKv xs h'.2.2 t e
end
/-- str of a thing -/
def strD : PyData → Str
  | .str x => x
  | d => d.shown
theorem strD_asc {d : PyData} (h : ascD d) : Asc (strD d) := by
  cases d with
  | str x => simpa [strD, ascD] using h
  | _ => exact asc_shown _ h
theorem len_repr (x : Str) : x.length ≤ (reprText x).length := by
  have grow : ∀ (q : Nat) (l : List Nat) (acc : Array Nat), acc.size + l.length ≤ (l.foldl (fun out c => out ++ (Builtin.Str.reprChar q c).toArray) acc).size := fun q l => by
    induction l with
    | nil => intro acc; simp
    | cons k r ih =>
      intro acc
      have h := ih (acc ++ (Builtin.Str.reprChar q k).toArray)
      have one : 1 ≤ (Builtin.Str.reprChar q k).length := by
        unfold Builtin.Str.reprChar
        dsimp only
        repeat' split
        all_goals simp
        all_goals omega
      rw [List.foldl_cons]
      simp only [Array.size_append, List.size_toArray] at h
      simp only [List.length_cons]
      omega
  have h := grow (reprQuote x) x.cps.toList #[reprQuote x]
  unfold reprText
  show x.length ≤ ((x.cps.foldl (fun out c => out ++ (Builtin.Str.reprChar (reprQuote x) c).toArray) #[reprQuote x]).push (reprQuote x)).size
  rw [Array.size_push, ← Array.foldl_toList]
  have e : x.cps.toList.length = x.length := by simp [Str.length]
  omega
theorem strD_len {d : PyData} : (strD d).length ≤ d.shown.length := by
  cases d with
  | str x =>
    simp only [strD, PyData.shown]
    exact len_repr x
  | _ => exact Nat.le_refl _
section
variable {X : Cx}
def rStrZ (K : PySem.W.Frag) : List V → Hp → VK → Prop := fun xs H Q => ∃ (v : V) (d : PyData), xs = [v] ∧ Dz K H v d ∧ d.showable = true ∧ d.depth ≤ 60 ∧ d.shown.length ≤ sizeLine ∧ Q (.str (strD d)) H
theorem cr_strZ {k : Nat} (quiet : X.A.guards = some []) (room : Room k X.A) : CallR X (.type "str") (rStrZ X.K) := by
  intro pins s σ H xs us Q I r h
  obtain ⟨v, d, rfl, hd, hs, hp, hz, q⟩ := h
  obtain ⟨u, rfl, rx⟩ := vals1 r
  have hu := room.un
  cases hd with
  | non =>
    cases rx
    exact PySem.P.str_of_none ⟨.str _, H, I.tok _, ⟨_, rfl⟩, q⟩
  | bl b =>
    cases rx
    exact PySem.P.str_of_bool ⟨.str _, H, I.tok _, ⟨_, rfl⟩, q⟩
  | int i =>
    obtain ⟨t, rfl⟩ := rx
    exact PySem.P.str_of_int (by simpa [PyData.showable] using hs) ⟨.str _, H, I.tok _, ⟨_, rfl⟩, q⟩
  | str x =>
    obtain ⟨t, rfl⟩ := rx
    exact PySem.P.str_of_str ⟨.str _, H, I, ⟨_, rfl⟩, q⟩
  | lst e n ha =>
    obtain ⟨as, rd, na⟩ := Dz.reads I _ _ u (.lst e n ha) rx
    cases rx
    exact str_of_reads rd hs (fun _ => na) quiet (by omega) (fun _ _ z => z) (fun h' u tk kept => ⟨.str _, H, I.kept kept, ⟨u, rfl⟩, q⟩) hz
  | tup e ha =>
    obtain ⟨as, rd, na⟩ := Dz.reads I _ _ u (.tup e ha) rx
    cases rx
    exact str_of_reads rd hs (fun _ => na) quiet (by omega) (fun _ _ z => z) (fun h' u tk kept => ⟨.str _, H, I.kept kept, ⟨u, rfl⟩, q⟩) hz
  | dct e ha =>
    obtain ⟨as, rd, na⟩ := Dz.reads I _ _ u (.dct e ha) rx
    cases rx
    exact str_of_reads rd hs (fun _ => na) quiet (by omega) (fun _ _ z => z) (fun h' u tk kept => ⟨.str _, H, I.kept kept, ⟨u, rfl⟩, q⟩) hz
end
end Az
set_option Elab.async false
set_option linter.all false
set_option maxRecDepth 100000
set_option maxHeartbeats 4000000
set_option pp.maxSteps 400
set_option pp.deepTerms false
namespace N44
open PySem PySem.Spec PyProof.Rows L2
open Xk Az
def top (i : Nat) : Stmt := PySem.Challenge.pw_takesworks_k44_titles_in_other_tongues.main.body.getD i (.Pass ⟨0, 0, 0, 0⟩)
abbrev sIsWhole : Stmt := top 3
abbrev sIsWithin : Stmt := top 4
abbrev sIsTextOf : Stmt := top 5
abbrev sIsSmallText : Stmt := top 6
abbrev sLinked : Stmt := top 37
abbrev sStepsFrom : Stmt := top 38
abbrev sGroupsIn : Stmt := top 39
abbrev sIsTongue : Stmt := top 19
abbrev sIsNameText : Stmt := top 20
abbrev sIsName : Stmt := top 21
abbrev sRefuseUnlessTwoNames : Stmt := top 41
abbrev sNamesInit : Stmt := inClass (top 42) 0
abbrev sNamesSortOut : Stmt := inClass (top 42) 1
abbrev sNamesTell : Stmt := inClass (top 42) 2
abbrev sNamesStrike : Stmt := inClass (top 42) 3
abbrev sNamesClassOf : Stmt := inClass (top 42) 4
abbrev sNamesAreOne : Stmt := inClass (top 42) 5
theorem scIsWhole : FnScope ["thing"] ["thing"] (defScope sIsWhole) := ⟨rfl, rfl, rfl, by decide +kernel, rfl, by decide +kernel, by decide +kernel⟩
theorem scIsWithin : FnScope ["thing", "least", "most"] ["thing", "least", "most"] (defScope sIsWithin) := ⟨rfl, rfl, rfl, by decide +kernel, rfl, by decide +kernel, by decide +kernel⟩
theorem scIsTextOf : FnScope ["thing", "signs", "least", "most", "sign"] ["thing", "signs", "least", "most"] (defScope sIsTextOf) := ⟨rfl, rfl, rfl, by decide +kernel, rfl, by decide +kernel, by decide +kernel⟩
theorem scIsSmallText : FnScope ["thing", "least", "most"] ["thing", "least", "most"] (defScope sIsSmallText) := ⟨rfl, rfl, rfl, by decide +kernel, rfl, by decide +kernel, by decide +kernel⟩
theorem scLinked : FnScope ["nodes", "pairs", "links", "one", "other", "node"] ["nodes", "pairs"] (defScope sLinked) := ⟨rfl, rfl, rfl, by decide +kernel, rfl, by decide +kernel, by decide +kernel⟩
theorem scStepsFrom : FnScope ["links", "start", "steps", "last", "reached", "node", "other"] ["links", "start"] (defScope sStepsFrom) := ⟨rfl, rfl, rfl, by decide +kernel, rfl, by decide +kernel, by decide +kernel⟩
theorem scGroupsIn : FnScope ["links", "seen", "groups", "start", "group", "node"] ["links"] (defScope sGroupsIn) := ⟨rfl, rfl, rfl, by decide +kernel, rfl, by decide +kernel, by decide +kernel⟩
theorem scIsTongue : FnScope ["thing"] ["thing"] (defScope sIsTongue) := ⟨rfl, rfl, rfl, by decide +kernel, rfl, by decide +kernel, by decide +kernel⟩
theorem scIsNameText : FnScope ["thing"] ["thing"] (defScope sIsNameText) := ⟨rfl, rfl, rfl, by decide +kernel, rfl, by decide +kernel, by decide +kernel⟩
theorem scIsName : FnScope ["thing"] ["thing"] (defScope sIsName) := ⟨rfl, rfl, rfl, by decide +kernel, rfl, by decide +kernel, by decide +kernel⟩
theorem scRefuseUnlessTwoNames : FnScope ["one", "other", "name"] ["one", "other"] (defScope sRefuseUnlessTwoNames) := ⟨rfl, rfl, rfl, by decide +kernel, rfl, by decide +kernel, by decide +kernel⟩
theorem scNamesInit : FnScope ["self"] ["self"] (defScope sNamesInit) := ⟨rfl, rfl, rfl, by decide +kernel, rfl, by decide +kernel, by decide +kernel⟩
theorem scNamesSortOut : FnScope ["self", "pairs", "pair", "name", "group"] ["self"] (defScope sNamesSortOut) := ⟨rfl, rfl, rfl, by decide +kernel, rfl, by decide +kernel, by decide +kernel⟩
theorem scNamesTell : FnScope ["self", "one", "other", "number"] ["self", "one", "other"] (defScope sNamesTell) := ⟨rfl, rfl, rfl, by decide +kernel, rfl, by decide +kernel, by decide +kernel⟩
theorem scNamesStrike : FnScope ["self", "number", "one", "other", "whole"] ["self", "number"] (defScope sNamesStrike) := ⟨rfl, rfl, rfl, by decide +kernel, rfl, by decide +kernel, by decide +kernel⟩
theorem scNamesClassOf : FnScope ["self", "name"] ["self", "name"] (defScope sNamesClassOf) := ⟨rfl, rfl, rfl, by decide +kernel, rfl, by decide +kernel, by decide +kernel⟩
theorem scNamesAreOne : FnScope ["self", "one", "other"] ["self", "one", "other"] (defScope sNamesAreOne) := ⟨rfl, rfl, rfl, by decide +kernel, rfl, by decide +kernel, by decide +kernel⟩
def offS (A : List Addr) (H : Hp) : Hp := fun b => if b ∈ A then none else H b
theorem offS_all {A : List Addr} {H : Hp} : L2.Same (offS A H) H := fun b o e => by
  unfold offS at e
  split at e
  · cases e
  · exact e
theorem offS_at {A : List Addr} {H : Hp} {p : Addr} {o : HO} (n : p ∉ A) (e : H p = some o) : offS A H p = some o := by
  unfold offS
  rw [if_neg n, e]
theorem offS_upd {A : List Addr} {H : Hp} {p : Addr} {o : HO} (m : p ∈ A) : L2.Same (offS A H) (offS A (upd H p o)) := fun b x e => by
  unfold offS at e
  split at e
  · cases e
  · rename_i n
    exact offS_at n (by rw [upd_ne (show b ≠ p from fun z => n (by rw [z]; exact m))]; exact e)
theorem offS_less {A B : List Addr} {H : Hp} (s : ∀ b ∈ B, b ∈ A) : L2.Same (offS A H) (offS B H) := fun b x e => by
  unfold offS at e
  split at e
  · cases e
  · rename_i n
    exact offS_at (fun m => n (s b m)) e
theorem new_off {A : List Addr} {H : Hp} {p : Addr} (ex : ∀ a ∈ A, H a ≠ none) (np : H p = none) : p ∉ A := fun m => ex p m np
theorem exS {A : List Addr} {H H' : Hp} (ex : ∀ a ∈ A, H a ≠ none) (s : L2.Same H H') : ∀ a ∈ A, H' a ≠ none := fun a m z => by
  cases e : H a with
  | none => exact ex a m e
  | some o =>
    rw [s a o e] at z
    cases z
theorem same_upd {H : Hp} {p : Addr} {o : HO} (h : H p = none) : L2.Same H (upd H p o) := fun b x e => by
  rw [upd_ne (ne_of_none e h)]
  exact e
def Bt (A : List Addr) (H H' : Hp) : Prop := ∀ b x, b ∉ A → H b = some x → H' b = some x
theorem Bt.refl (A : List Addr) (H : Hp) : Bt A H H := fun _ _ _ e => e
theorem Bt.trans {A : List Addr} {H H1 H2 : Hp} (p : Bt A H H1) (q : Bt A H1 H2) : Bt A H H2 := fun b o n e => q b o n (p b o n e)
theorem Bt.of {A : List Addr} {H H' : Hp} (s : L2.Same H H') : Bt A H H' := fun b o _ e => s b o e
theorem Bt.off {A : List Addr} {H H' : Hp} (s : Bt A H H') : L2.Same (offS A H) (offS A H') := fun b o e => by
  unfold offS at e
  split at e
  · cases e
  · rename_i n
    exact offS_at n (s b o n e)
/-- a hand: where it stands, where its own numbers stand -/
def Hd (h o : Addr) (n : Int) (H : Hp) : Prop := ∃ (gs : List Int) (m c : Int), H h = some (.lst [.ref o, .int m, .int c]) ∧ H o = some (.lst (gs.map V.int)) ∧ o ≠ h ∧ (∀ g ∈ gs, 0 ≤ g) ∧ gs.length ≤ 63 ∧ 0 ≤ m ∧ m < 2305843009213693951 ∧ 0 ≤ c ∧ c ≤ n
theorem Hd.mono {h o : Addr} {n n' : Int} {H : Hp} (a : Hd h o n H) (l : n ≤ n') : Hd h o n' H := by
  obtain ⟨gs, m, c, r1, r2, r3, r4, r5, r6, r7, r8, r9⟩ := a
  exact ⟨gs, m, c, r1, r2, r3, r4, r5, r6, r7, r8, Int.le_trans r9 l⟩
theorem Hd.same {h o : Addr} {n : Int} {H H' : Hp} (a : Hd h o n H) (s : L2.Same H H') : Hd h o n H' := by
  obtain ⟨gs, m, c, r1, r2, r⟩ := a
  exact ⟨gs, m, c, s _ _ r1, s _ _ r2, r⟩
theorem Hd.upd {h o p : Addr} {n : Int} {H : Hp} {x : HO} (a : Hd h o n H) (np : p ∉ [h, o]) : Hd h o n (L2.upd H p x) := by
  obtain ⟨gs, m, c, r1, r2, r⟩ := a
  have q1 : h ≠ p := fun z => np (by rw [z]; simp)
  have q2 : o ≠ p := fun z => np (by rw [z]; simp)
  exact ⟨gs, m, c, by rw [upd_ne q1]; exact r1, by rw [upd_ne q2]; exact r2, r⟩
theorem Hd.here {h o : Addr} {n : Int} {H : Hp} (a : Hd h o n H) : ∀ b ∈ [h, o], H b ≠ none := fun b mb z => by
  obtain ⟨gs, m, c, r1, r2, r⟩ := a
  simp only [List.mem_cons, List.not_mem_nil, or_false] at mb
  rcases mb with e | e
  · rw [e, r1] at z; cases z
  · rw [e, r2] at z; cases z
theorem Hd.fresh {h o p : Addr} {n : Int} {H : Hp} (a : Hd h o n H) (np : H p = none) : p ∉ [h, o] := fun m => a.here p m np
end N44
set_option Elab.async false
set_option linter.all false
set_option maxRecDepth 100000
set_option maxHeartbeats 4000000
set_option pp.maxSteps 400
set_option pp.deepTerms false
namespace N44
open PySem PySem.Spec PyProof.Rows L2
open Xk Az
section
variable {P : Program} {w : World} {K : PySem.W.Frag} {mg : Str → Option Value} {base : Heap}
/-- a def that may be called by its name -/
structure Ca (P : Program) (w : World) (K : PySem.W.Frag) (mg : Str → Option Value) (base : Heap) (k : Nat) (x : Str) (ps : List Str) (sp : Sp) : Prop where
  ex : ∃ (f : Addr) (fd : FuncData), FnOk P w K mg base CX0 k f fd ps sp ∧ mg x = some (.ref f) ∧ PySem.W.keepIn K (.ref f) = true ∧ Binds K fd ps []
/-- a def of the text, as the head finds it -/
structure Df (K : PySem.W.Frag) (mg : Str → Option Value) (x : Str) (ps : List Str) (st : Stmt) (f : Addr) (fd : FuncData) : Prop where
  fn : Fun K x x st f fd
  mgf : mg x = some (.ref f)
  bd : Binds K fd ps []
theorem Df.ca {k : Nat} {x : Str} {ps : List Str} {st : Stmt} {f : Addr} {fd : FuncData} {sp : Sp} (d : Df K mg x ps st f fd)
    (h : FnOk P w K mg base CX0 k f fd ps sp) : Ca P w K mg base k x ps sp := ⟨f, fd, h, d.mgf, d.fn.kp, d.bd⟩
section
variable {X : Cx} {k j : Nat} {x : Str} {ps : List Str} {sp : Sp} {p pos : Pos} {e : Expr} {es : List Expr} {t : TA}
theorem pe_ca (c : Ca X.prog X.w X.K X.mg X.base k x ps sp) (hr : Room j X.A) (hk : k ≤ j) (hg : Gl X x) (ha : PA X (e :: es) t) (hdb : (x == ("__debug__" : Str)) = false := by decide)
    (he : starEach (e :: es) X.env = (false, eval e X.env) :: starEach es X.env := by rfl) (hpl : (backTo pos (starEach es X.env)).any (·.1) = false := by rfl) :
    PE X (.Call (.Name x p) (e :: es) [] pos) (tCall sp [] E0 t) := by
  obtain ⟨f, fd, F, hm, kp, b⟩ := c.ex
  exact pe_call F (hr.mono hk) hg hm kp b .nil pass0 ha hdb he hpl
end
def small : Str := "abcdefghijklmnopqrstuvwxyz"
def signs : Str := "abcdefghijklmnopqrstuvwxyzABCDEFGHIJKLMNOPQRSTUVWXYZ0123456789 '-."
/-- what the top has left, besides the defs -/
structure Txt (K : PySem.W.Frag) (mg : Str → Option Value) : Prop where
  sm : ∃ t, mg "SMALL_LETTERS" = some (.str small t)
  sg : ∃ t, mg "TEXT_SIGNS" = some (.str signs t)
  st : ∃ t, mg "SHORTEST_TONGUE" = some (.int 2 t)
  lt : ∃ t, mg "LONGEST_TONGUE" = some (.int 3 t)
  lx : ∃ t, mg "LONGEST_TEXT" = some (.int 40 t)
  isi : mg "isinstance" = none
  str : mg "str" = none
  tuple : mg "tuple" = none
  len : mg "len" = none
  all : mg "all" = none
  range : mg "range" = none
  repr : mg "repr" = none
  list : mg "list" = none
  max : mg "max" = none
  min : mg "min" = none
  bool : mg "bool" = none
  int : mg "int" = none
  sorted : mg "sorted" = none
  set : mg "set" = none
  enumerate : mg "enumerate" = none
  zip : mg "zip" = none
abbrev far : Int := 1000000
def spHand (K : PySem.W.Frag) : Sp := fun vs H Q _ => ∃ (a : Addr) (ns : List Int), vs = [.ref a] ∧ SqL K H a (ns.map V.int) ∧ ns.length ≤ 63 ∧ ∀ h o H', Hd h o 0 H' → L2.Same H H' → H h = none → H o = none → Q (.ref h) H'
def spTake : Sp := fun vs H Q _ => ∃ (h o : Addr) (many n : Int), vs = [.ref h, .int many] ∧ 0 < many ∧ many < 1000000 ∧ Hd h o n H ∧ n ≤ far ∧
  ∀ d H', 0 ≤ d → d < many → Hd h o (n + 1) H' → Bt [h, o] H H' → Q (.int d) H'
theorem dpAll_ints {H : Hp} : ∀ gs : List Int, DpAll K H (gs.map V.int) (gs.map PyData.int)
  | [] => .nil
  | g :: r => .cons (.int g) (dpAll_ints r)
theorem lay_ints : ∀ gs : List Int, PyData.canLayAll0 (gs.map PyData.int) = true
  | [] => by simp [PyData.canLayAll0]
  | g :: r => by simp [PyData.canLayAll0, PyData.canLay0, lay_ints r]
theorem depth_ints : ∀ gs : List Int, PyData.depthAll (gs.map PyData.int) ≤ 1
  | [] => by simp [PyData.depthAll]
  | g :: r => by
    have := depth_ints r
    simp only [List.map_cons, PyData.depthAll, PyData.depth]
    omega
theorem shaped_ints (gs : List Int) : SeqAt.shaped (.list (gs.map PyData.int)) = true := by
  unfold SeqAt.shaped
  have := depth_ints gs
  have h1 : (PyData.list (gs.map PyData.int)).canLay0 = true := by simp only [PyData.canLay0]; exact lay_ints gs
  have h2 : (PyData.list (gs.map PyData.int)).depth ≤ 64 := by simp only [PyData.depth]; omega
  rw [h1, decide_eq_true h2]
  rfl
theorem eqv_nil : PyData.eqv (.list (([] : List Int).map PyData.int)) (.list []) = true := by simp [PyData.eqv, PyData.eqvAll]
theorem eqv_cons (g : Int) (r : List Int) : PyData.eqv (.list ((g :: r).map PyData.int)) (.list []) = false := by simp [PyData.eqv, PyData.eqvAll]
theorem ixN_nat {n j : Nat} (h : j < n) : ixN n (j : Int) = some j := by
  unfold ixN
  rw [if_pos (by omega), if_pos (by omega)]
  simp
theorem wide30 {g many : Int} (m1 : 0 < many) (m2 : many < 1000000) : CDivW g many := by
  have h : (1000000 : Int) < 2 ^ 110 := by decide
  exact wide_div (b := 110) m1 (by omega) (by decide) (by decide)
theorem cut_ints (ns : List Int) (lo hi : Option Int) : cutV (ns.map V.int) lo hi = ((ns.drop (HT.sIx ns.length 0 lo)).take (HT.sIx ns.length ns.length hi - HT.sIx ns.length 0 lo)).map V.int := by
  unfold cutV
  rw [List.length_map, List.map_take, List.map_drop]
theorem cut_len (ns : List Int) (lo hi : Option Int) : ((ns.drop (HT.sIx ns.length 0 lo)).take (HT.sIx ns.length ns.length hi - HT.sIx ns.length 0 lo)).length ≤ ns.length := by
  rw [List.length_take, List.length_drop]
  omega
end
end N44
set_option Elab.async false
set_option linter.all false
set_option maxRecDepth 100000
set_option maxHeartbeats 4000000
set_option pp.maxSteps 400
set_option pp.deepTerms false
/-! Works: names and parts; how many things a thing has; what a work is. -/
namespace W37
open PySem PySem.Spec PyProof.Rows L2
open Az
abbrev Nm := Str × Str
def nD (n : Nm) : PyData := .tuple [.str n.1, .str n.2]
theorem nD_inj {n m : Nm} (h : nD n = nD m) : n = m := by
  obtain ⟨a, b⟩ := n
  obtain ⟨c, d⟩ := m
  unfold nD at h
  injection h with h
  injection h with h1 h2
  injection h2 with h2 _
  injection h1 with h1
  injection h2 with h2
  exact Prod.ext h1 h2
/-- a work -/
inductive W where
  | mk (n : Nm) (ps : List W)
mutual
def W.nms : W → List Nm
  | .mk n ps => n :: nmsL ps
def nmsL : List W → List Nm
  | [] => []
  | w :: r => w.nms ++ nmsL r
end
mutual
def W.dat : W → PyData
  | .mk n ps => .tuple [nD n, .tuple (datL ps)]
def datL : List W → List PyData
  | [] => []
  | w :: r => w.dat :: datL r
end
mutual
def W.dp : W → Nat
  | .mk _ ps => dpL ps + 1
def dpL : List W → Nat
  | [] => 0
  | w :: r => max w.dp (dpL r)
end
theorem nmsL_app : ∀ xs ys : List W, nmsL (xs ++ ys) = nmsL xs ++ nmsL ys
  | [], ys => by simp [nmsL]
  | w :: r, ys => by
    rw [List.cons_append, nmsL, nmsL_app r ys, nmsL, List.append_assoc]
theorem dpL_app : ∀ (xs : List W) (w : W) (k : Nat), dpL xs ≤ k → w.dp ≤ k → dpL (xs ++ [w]) ≤ k
  | [], w, k, _, h => by
    rw [List.nil_append, dpL, dpL]
    omega
  | x :: r, w, k, h, h' => by
    rw [dpL] at h
    rw [List.cons_append, dpL]
    have := dpL_app r w k (by omega) h'
    omega
theorem dpL_mem : ∀ {xs : List W} {w : W}, w ∈ xs → w.dp ≤ dpL xs
  | x :: r, w, h => by
    rw [dpL]
    rcases List.mem_cons.mp h with z | z
    · rw [z]; omega
    · have := dpL_mem z
      omega
theorem datL_map : ∀ ws : List W, datL ws = ws.map W.dat
  | [] => rfl
  | w :: r => by rw [datL, datL_map r, List.map_cons]
/-- a name as it stands -/
def NmV (H : Hp) (v : V) (n : Nm) : Prop := ∃ t, v = .ref t ∧ H t = some (.tup [.str n.1, .str n.2])
inductive NmL (H : Hp) : List V → List Nm → Prop
  | nil : NmL H [] []
  | cons {v : V} {vs : List V} {n : Nm} {ns : List Nm} : NmV H v n → NmL H vs ns → NmL H (v :: vs) (n :: ns)
/-- tuples stand -/
def Tp (H H' : Hp) : Prop := ∀ b xs, H b = some (.tup xs) → H' b = some (.tup xs)
theorem Tp.trans {H H1 H2 : Hp} (p : Tp H H1) (q : Tp H1 H2) : Tp H H2 := fun b xs e => q b xs (p b xs e)
theorem tp_same {H H' : Hp} (s : L2.Same H H') : Tp H H' := fun b ys e => s b _ e
theorem tp_upd {H : Hp} {p : Addr} {x : HO} (e : ∀ xs, H p ≠ some (.tup xs)) : Tp H (upd H p x) := fun b ys eb => by
  rw [upd_ne (fun z => e ys (by rw [← z]; exact eb))]
  exact eb
theorem NmV.tp {H H' : Hp} {v : V} {n : Nm} (h : NmV H v n) (s : Tp H H') : NmV H' v n := by
  obtain ⟨t, e, r⟩ := h
  exact ⟨t, e, s _ _ r⟩
theorem NmL.tp {H H' : Hp} (s : Tp H H') : ∀ {vs : List V} {ns : List Nm}, NmL H vs ns → NmL H' vs ns
  | _, _, .nil => .nil
  | _, _, .cons h r => .cons (h.tp s) (r.tp s)
theorem NmL.len {H : Hp} : ∀ {vs : List V} {ns : List Nm}, NmL H vs ns → vs.length = ns.length
  | _, _, .nil => rfl
  | _, _, .cons _ r => by rw [List.length_cons, List.length_cons, r.len]
theorem NmL.snoc {H : Hp} : ∀ {vs : List V} {ns : List Nm} {v : V} {n : Nm}, NmL H vs ns → NmV H v n → NmL H (vs ++ [v]) (ns ++ [n])
  | _, _, _, _, .nil, h => .cons h .nil
  | _, _, _, _, .cons h r, h' => .cons h (r.snoc h')
theorem NmL.app {H : Hp} : ∀ {vs ws : List V} {ns ms : List Nm}, NmL H vs ns → NmL H ws ms → NmL H (vs ++ ws) (ns ++ ms)
  | _, _, _, _, .nil, h => h
  | _, _, _, _, .cons h r, h' => .cons h (r.app h')
theorem NmL.take {H : Hp} : ∀ {vs : List V} {ns : List Nm} (k : Nat), NmL H vs ns → NmL H (vs.take k) (ns.take k)
  | _, _, 0, h => by rw [List.take_zero, List.take_zero]; exact .nil
  | _, _, _ + 1, .nil => .nil
  | _, _, k + 1, .cons h r => .cons h (r.take k)
theorem NmL.drop {H : Hp} : ∀ {vs : List V} {ns : List Nm} (k : Nat), NmL H vs ns → NmL H (vs.drop k) (ns.drop k)
  | _, _, 0, h => h
  | _, _, _ + 1, .nil => .nil
  | _, _, k + 1, .cons h r => r.drop k
theorem NmL.get {H : Hp} : ∀ {vs : List V} {ns : List Nm} {i : Nat} {v : V}, NmL H vs ns → vs[i]? = some v → ∃ n, ns[i]? = some n ∧ NmV H v n
  | _, _, _, _, .nil, e => by simp at e
  | _, _, 0, _, .cons h r, e => by
    rw [List.getElem?_cons_zero] at e
    cases e
    exact ⟨_, rfl, h⟩
  | _, _, i + 1, _, .cons h r, e => by
    rw [List.getElem?_cons_succ] at e
    obtain ⟨n, e1, q⟩ := r.get e
    exact ⟨n, by rw [List.getElem?_cons_succ]; exact e1, q⟩
theorem NmL.mem {H : Hp} {vs : List V} {ns : List Nm} (h : NmL H vs ns) {v : V} (m : v ∈ vs) : ∃ n ∈ ns, NmV H v n := by
  obtain ⟨i, hi⟩ := List.getElem?_of_mem m
  obtain ⟨n, e, q⟩ := h.get hi
  exact ⟨n, List.mem_of_getElem? e, q⟩
mutual
/-- a work as it stands -/
inductive Wk (H : Hp) : V → W → Prop
  | mk {t p : Addr} {v : V} {n : Nm} {xs : List V} {ps : List W} : H t = some (.tup [v, .ref p]) → NmV H v n → H p = some (.tup xs) → WkL H xs ps → Wk H (.ref t) (.mk n ps)
inductive WkL (H : Hp) : List V → List W → Prop
  | nil : WkL H [] []
  | cons {v : V} {vs : List V} {w : W} {ws : List W} : Wk H v w → WkL H vs ws → WkL H (v :: vs) (w :: ws)
end
mutual
theorem Wk.tp {H H' : Hp} (s : Tp H H') : ∀ {v : V} {w : W}, Wk H v w → Wk H' v w
  | _, _, .mk e1 n e2 r => .mk (s _ _ e1) (n.tp s) (s _ _ e2) (WkL.tp s r)
theorem WkL.tp {H H' : Hp} (s : Tp H H') : ∀ {vs : List V} {ws : List W}, WkL H vs ws → WkL H' vs ws
  | _, _, .nil => .nil
  | _, _, .cons h r => .cons (Wk.tp s h) (WkL.tp s r)
end
theorem WkL.len {H : Hp} : ∀ {vs : List V} {ws : List W}, WkL H vs ws → vs.length = ws.length
  | _, _, .nil => rfl
  | _, _, .cons _ r => by rw [List.length_cons, List.length_cons, r.len]
theorem WkL.snoc {H : Hp} : ∀ {vs : List V} {ws : List W} {v : V} {w : W}, WkL H vs ws → Wk H v w → WkL H (vs ++ [v]) (ws ++ [w])
  | _, _, _, _, .nil, h => .cons h .nil
  | _, _, _, _, .cons h r, h' => .cons h (r.snoc h')
theorem WkL.get {H : Hp} : ∀ {vs : List V} {ws : List W} {i : Nat} {v : V}, WkL H vs ws → vs[i]? = some v → ∃ w, ws[i]? = some w ∧ Wk H v w
  | _, _, _, _, .nil, e => by simp at e
  | _, _, 0, _, .cons h r, e => by
    rw [List.getElem?_cons_zero] at e
    cases e
    exact ⟨_, rfl, h⟩
  | _, _, i + 1, _, .cons h r, e => by
    rw [List.getElem?_cons_succ] at e
    obtain ⟨n, e1, q⟩ := r.get e
    exact ⟨n, by rw [List.getElem?_cons_succ]; exact e1, q⟩
section
variable {K : PySem.W.Frag}
theorem NmV.dz {H : Hp} {v : V} {n : Nm} (h : NmV H v n) : Dz K H v (nD n) := by
  obtain ⟨t, rfl, e⟩ := h
  exact .tup e (.cons (.str _) (.cons (.str _) .nil))
mutual
theorem Wk.dz {H : Hp} : ∀ {v : V} {w : W}, Wk H v w → Dz K H v w.dat
  | _, _, .mk e1 n e2 r => by
    rw [W.dat]
    exact .tup e1 (.cons n.dz (.cons (.tup e2 (WkL.dz r)) .nil))
theorem WkL.dz {H : Hp} : ∀ {vs : List V} {ws : List W}, WkL H vs ws → DzAll K H vs (datL ws)
  | _, _, .nil => by rw [datL]; exact .nil
  | _, _, .cons h r => by rw [datL]; exact .cons (Wk.dz h) (WkL.dz r)
end
end
/-! ## things: how many they have, how deep they are, their texts -/
def Ok7 (x : Str) : Prop := x.length ≤ 200 ∧ ∀ c ∈ x.cps.toList, c < 128
mutual
def wt : PyData → Nat
  | .tuple ds => wts ds + 1
  | _ => 1
def wts : List PyData → Nat
  | [] => 0
  | d :: r => wt d + wts r
end
mutual
def dt : PyData → Nat
  | .tuple ds => dts ds + 1
  | _ => 0
def dts : List PyData → Nat
  | [] => 0
  | d :: r => max (dt d) (dts r)
end
mutual
def gd : PyData → Prop
  | .str x => Ok7 x
  | .tuple ds => gds ds
  | _ => True
def gds : List PyData → Prop
  | [] => True
  | d :: r => gd d ∧ gds r
end
theorem wt_pos : ∀ d : PyData, 1 ≤ wt d
  | .tuple ds => by rw [wt]; omega
  | .none | .bool _ | .int _ | .str _ | .list _ | .dict _ => by simp [wt]
theorem wts_app : ∀ xs ys : List PyData, wts (xs ++ ys) = wts xs + wts ys
  | [], ys => by simp [wts]
  | d :: r, ys => by
    rw [List.cons_append, wts, wts_app r ys, wts]
    omega
theorem len_wts : ∀ ds : List PyData, ds.length ≤ wts ds
  | [] => by simp
  | d :: r => by
    have := len_wts r
    have := wt_pos d
    rw [List.length_cons, wts]
    omega
theorem wts_mem : ∀ {ds : List PyData} {d : PyData}, d ∈ ds → wt d ≤ wts ds
  | d :: r, e, h => by
    rw [wts]
    rcases List.mem_cons.mp h with z | z
    · rw [z]; omega
    · have := wts_mem z
      omega
theorem dts_app : ∀ xs ys : List PyData, dts (xs ++ ys) = max (dts xs) (dts ys)
  | [], ys => by simp [dts]
  | d :: r, ys => by
    rw [List.cons_append, dts, dts_app r ys, dts]
    omega
theorem dts_mem : ∀ {ds : List PyData} {d : PyData}, d ∈ ds → dt d ≤ dts ds
  | d :: r, e, h => by
    rw [dts]
    rcases List.mem_cons.mp h with z | z
    · rw [z]; omega
    · have := dts_mem z
      omega
theorem gds_iff : ∀ {ds : List PyData}, gds ds ↔ ∀ d ∈ ds, gd d
  | [] => by simp [gds]
  | d :: r => by rw [gds, gds_iff (ds := r)]; simp
theorem gds_app {xs ys : List PyData} : gds (xs ++ ys) ↔ gds xs ∧ gds ys := by
  rw [gds_iff, gds_iff, gds_iff]
  constructor
  · intro h
    exact ⟨fun d m => h d (List.mem_append_left _ m), fun d m => h d (List.mem_append_right _ m)⟩
  · rintro ⟨h1, h2⟩ d m
    rcases List.mem_append.mp m with z | z
    · exact h1 d z
    · exact h2 d z
/-! ## what a work is -/
section
variable (nm : PyData → Bool)
def form : Nat → PyData → Bool
  | 0, _ => false
  | k + 1, d => match d with
    | .tuple [n, .tuple ps] => nm n && ps.all (form k)
    | _ => false
def names : Nat → PyData → List PyData
  | 0, _ => []
  | k + 1, d => match d with
    | .tuple [n, .tuple ps] => n :: ps.flatMap (names k)
    | _ => []
/-- a name beside a tuple -/
def nwp (d : PyData) : Bool := match d with
  | .tuple [n, .tuple _] => nm n
  | _ => false
theorem form_nwp {k : Nat} {d : PyData} (h : nwp nm d = false) : form nm k d = false := by
  cases k with
  | zero => rfl
  | succ k =>
    unfold form
    unfold nwp at h
    split
    · rename_i n ps
      simp only at h
      rw [h]
      rfl
    · rfl
theorem nwp_mk {d : PyData} (h : nwp nm d = true) : ∃ n ps, d = .tuple [n, .tuple ps] ∧ nm n = true := by
  unfold nwp at h
  split at h
  · rename_i n ps
    exact ⟨n, ps, rfl, h⟩
  · cases h
def IsW (d : PyData) : Prop := form nm 5 d = true ∧ (names 5 d).Nodup
/-- a stack of things, the first to be taken at the end: how many levels each may have yet, and what was seen -/
def Ans (st : List (PyData × Nat)) (seen : List PyData) : Prop := (∀ p ∈ st, form nm p.2 p.1 = true) ∧ (seen ++ st.flatMap fun p => names p.2 p.1).Nodup
theorem ans_nil {seen : List PyData} (h : seen.Nodup) : Ans nm [] seen := ⟨by simp, by simpa using h⟩
theorem ans_one {d : PyData} : Ans nm [(d, 5)] [] ↔ IsW nm d := by
  unfold Ans IsW
  simp
theorem ans_bad {st : List (PyData × Nat)} {p : PyData × Nat} {seen : List PyData} (h : form nm p.2 p.1 = false) : ¬ Ans nm (st ++ [p]) seen := fun a => by
  have := a.1 p (by simp)
  rw [h] at this
  cases this
theorem ans_zero {st : List (PyData × Nat)} {d : PyData} {seen : List PyData} : ¬ Ans nm (st ++ [(d, 0)]) seen := ans_bad nm rfl
theorem ans_seen {st : List (PyData × Nat)} {n : PyData} {ps : List PyData} {k : Nat} {seen : List PyData} (h : n ∈ seen) : ¬ Ans nm (st ++ [(.tuple [n, .tuple ps], k + 1)]) seen := fun a => by
  have q := a.2
  rw [List.nodup_append] at q
  refine q.2.2 n h n ?_ rfl
  rw [List.mem_flatMap]
  exact ⟨(.tuple [n, .tuple ps], k + 1), by simp, by simp [names]⟩
theorem ans_step {st : List (PyData × Nat)} {n : PyData} {ps : List PyData} {k : Nat} {seen : List PyData} (hn : nm n = true) :
    Ans nm (st ++ [(.tuple [n, .tuple ps], k + 1)]) seen ↔ Ans nm (st ++ ps.map fun q => (q, k)) (seen ++ [n]) := by
  unfold Ans
  constructor
  · rintro ⟨a, b⟩
    constructor
    · intro p hp
      rcases List.mem_append.mp hp with z | z
      · exact a p (List.mem_append_left _ z)
      · obtain ⟨q, hq, rfl⟩ := List.mem_map.mp z
        have := a (.tuple [n, .tuple ps], k + 1) (by simp)
        simp only [form, hn, Bool.true_and, List.all_eq_true] at this
        exact this q hq
    · refine (List.Perm.nodup_iff ?_).mp b
      simp only [List.flatMap_append, List.flatMap_cons, List.flatMap_nil, names, List.append_nil, List.flatMap_map, List.append_assoc]
      refine List.Perm.append_left _ ?_
      show (_ ++ n :: _).Perm ([n] ++ _)
      exact List.perm_middle
  · rintro ⟨a, b⟩
    constructor
    · intro p hp
      rcases List.mem_append.mp hp with z | z
      · exact a p (List.mem_append_left _ z)
      · rw [List.mem_singleton.mp z]
        simp only [form, hn, Bool.true_and, List.all_eq_true]
        intro q hq
        exact a (q, k) (List.mem_append_right _ (List.mem_map.mpr ⟨q, hq, rfl⟩))
    · refine (List.Perm.nodup_iff ?_).mpr b
      simp only [List.flatMap_append, List.flatMap_cons, List.flatMap_nil, names, List.append_nil, List.flatMap_map, List.append_assoc]
      refine List.Perm.append_left _ ?_
      show (_ ++ n :: _).Perm ([n] ++ _)
      exact List.perm_middle
end
end W37
set_option Elab.async false
set_option linter.all false
set_option maxRecDepth 100000
set_option maxHeartbeats 4000000
/-! names in order; pairs of names, and whom they lead to -/
namespace Xnp
open PySem PySem.Spec PyProof.Rows L2 W37
/-! ## names in order -/
def nmLe : Nm → Nm → Bool := PySem.W.dataLe false nD
theorem toks_nD (a : Nm) : PySem.W.keyToks (nD a) = [.inl 1, .inr a.1.cps.toList, .inl 1, .inr a.2.cps.toList, .inl 0] := by
  simp [nD, PySem.W.keyToks, PySem.W.keyToksAll]
theorem nm_anti {a b : Nm} (h1 : nmLe a b = true) (h2 : nmLe b a = true) : a = b := by
  have k1 : (listOrd itemOrd).blt (PySem.W.keyToks (nD b)) (PySem.W.keyToks (nD a)) = false := by
    have : (!(listOrd itemOrd).blt (PySem.W.keyToks (nD b)) (PySem.W.keyToks (nD a))) = true := h1
    simpa using this
  have k2 : (listOrd itemOrd).blt (PySem.W.keyToks (nD a)) (PySem.W.keyToks (nD b)) = false := by
    have : (!(listOrd itemOrd).blt (PySem.W.keyToks (nD a)) (PySem.W.keyToks (nD b))) = true := h2
    simpa using this
  have e := (listOrd itemOrd).total _ _ k2 k1
  rw [toks_nD, toks_nD] at e
  simp only [List.cons.injEq, Sum.inr.injEq, true_and, and_true] at e
  obtain ⟨⟨x1⟩, ⟨y1⟩⟩ := a
  obtain ⟨⟨x2⟩, ⟨y2⟩⟩ := b
  have e1 : x1 = x2 := Array.toList_inj.mp e.1
  have e2 : y1 = y2 := Array.toList_inj.mp e.2
  rw [e1, e2]
theorem nm_tot : PySem.W.TotalLe nmLe := PySem.W.sortLe_total (listOrd itemOrd) false fun b => PySem.W.keyToks (nD b)
abbrev Rise (l : List Nm) : Prop := l.Pairwise fun a b => nmLe a b = true
theorem rise_uniq : ∀ {l m : List Nm}, l.Nodup → m.Nodup → (∀ a, a ∈ l ↔ a ∈ m) → Rise l → Rise m → l = m
  | [], [], _, _, _, _, _ => rfl
  | [], y :: _, _, _, h, _, _ => absurd ((h y).mpr List.mem_cons_self) (by simp)
  | x :: _, [], _, _, h, _, _ => absurd ((h x).mp List.mem_cons_self) (by simp)
  | x :: l, y :: m, nl, nm, h, rl, rm => by
    have nl2 := List.nodup_cons.mp nl
    have nm2 := List.nodup_cons.mp nm
    have rl2 := List.pairwise_cons.mp rl
    have rm2 := List.pairwise_cons.mp rm
    have e : x = y := by
      rcases List.mem_cons.mp ((h x).mp List.mem_cons_self) with z | z
      · exact z
      · rcases List.mem_cons.mp ((h y).mpr List.mem_cons_self) with u | u
        · exact u.symm
        · exact nm_anti (rl2.1 y u) (rm2.1 x z)
    subst e
    congr 1
    refine rise_uniq nl2.2 nm2.2 (fun a => ⟨fun ha => ?_, fun ha => ?_⟩) rl2.2 rm2.2
    · rcases List.mem_cons.mp ((h a).mp (List.mem_cons_of_mem _ ha)) with z | z
      · exact absurd (z ▸ ha) nl2.1
      · exact z
    · rcases List.mem_cons.mp ((h a).mpr (List.mem_cons_of_mem _ ha)) with z | z
      · exact absurd (z ▸ ha) nm2.1
      · exact z
theorem rise_sort (l : List Nm) : Rise (l.mergeSort nmLe) := List.pairwise_mergeSort (fun a b c h1 h2 => nm_tot.trans a b c h1 h2) (fun a b => by rcases nm_tot.total a b with h | h <;> simp [h]) l
/-! ## pairs of names -/
abbrev Pair := Nm × Nm
def Adj (es : List Pair) (a b : Nm) : Prop := (a, b) ∈ es ∨ (b, a) ∈ es
theorem Adj.symm {es : List Pair} {a b : Nm} (h : Adj es a b) : Adj es b a := h.elim .inr .inl
inductive Rch (es : List Pair) : Nm → Nm → Prop
  | refl (a : Nm) : Rch es a a
  | step {a b c : Nm} : Rch es a b → Adj es b c → Rch es a c
theorem Rch.trans {es : List Pair} {a b c : Nm} (h : Rch es a b) (k : Rch es b c) : Rch es a c := by
  induction k with
  | refl => exact h
  | step _ j ih => exact .step ih j
theorem Rch.symm {es : List Pair} {a b : Nm} (h : Rch es a b) : Rch es b a := by
  induction h with
  | refl => exact .refl _
  | step _ j ih => exact (Rch.step (.refl _) j.symm).trans ih
/-- what is shut and holds a holds all that a leads to -/
theorem Rch.shut {es : List Pair} {a b : Nm} (h : Rch es a b) {S : Nm → Prop} (s0 : S a) (sh : ∀ x y, S x → Adj es x y → S y) : S b := by
  induction h with
  | refl => exact s0
  | step _ j ih => exact sh _ _ ih j
/-- the class of a name, in order -/
structure Cls (es : List Pair) (a : Nm) (l : List Nm) : Prop where
  nd : l.Nodup
  mem : ∀ b, b ∈ l ↔ Rch es a b
  rise : Rise l
theorem Cls.uniq {es : List Pair} {a : Nm} {l m : List Nm} (h : Cls es a l) (k : Cls es a m) : l = m := rise_uniq h.nd k.nd (fun b => (h.mem b).trans (k.mem b).symm) h.rise k.rise
theorem Cls.of {es : List Pair} {a b : Nm} {l : List Nm} (h : Cls es a l) (r : Rch es a b) : Cls es b l := ⟨h.nd, fun c => (h.mem c).trans ⟨fun q => r.symm.trans q, fun q => r.trans q⟩, h.rise⟩
theorem Cls.self {es : List Pair} {a : Nm} {l : List Nm} (h : Cls es a l) : a ∈ l := (h.mem a).mpr (.refl a)
/-- all names of the pairs -/
def nodes (es : List Pair) : List Nm := es.flatMap fun p => [p.1, p.2]
theorem mem_nodes {es : List Pair} {a : Nm} : a ∈ nodes es ↔ ∃ b, Adj es a b := by
  unfold nodes
  rw [List.mem_flatMap]
  constructor
  · rintro ⟨⟨x, y⟩, hp, ha⟩
    simp only [List.mem_cons, List.not_mem_nil, or_false] at ha
    rcases ha with rfl | rfl
    · exact ⟨_, .inl hp⟩
    · exact ⟨_, .inr hp⟩
  · rintro ⟨b, h | h⟩
    · exact ⟨_, h, by simp⟩
    · exact ⟨_, h, by simp⟩
theorem Cls.alone {es : List Pair} {a : Nm} (h : a ∉ nodes es) : Cls es a [a] := ⟨by simp, fun b => ⟨fun m => by rw [List.mem_singleton.mp m]; exact .refl a, fun r => by
  have : a = b ∨ ∃ c, Adj es a c := by
    have : b = a ∨ ∃ c, Adj es a c := by
      induction r with
      | refl => exact .inl rfl
      | step r j ih =>
        rcases ih with rfl | q
        · exact .inr ⟨_, j⟩
        · exact .inr q
    exact this.imp Eq.symm id
  rcases this with rfl | q
  · simp
  · exact absurd (mem_nodes.mpr q) h⟩, by simp⟩
/-- whom a name stands beside, in the order of the pairs -/
def nb (es : List Pair) (a : Nm) : List Nm := es.flatMap fun p => (if p.1 = a then [p.2] else []) ++ if p.2 = a then [p.1] else []
theorem mem_nb {es : List Pair} {a b : Nm} : b ∈ nb es a ↔ Adj es a b := by
  unfold nb
  rw [List.mem_flatMap]
  constructor
  · rintro ⟨⟨x, y⟩, hp, hb⟩
    simp only [List.mem_append] at hb
    rcases hb with hb | hb
    · split at hb
      · rename_i q
        have q : x = a := q
        rw [List.mem_singleton.mp hb]
        exact .inl (q ▸ hp)
      · cases hb
    · split at hb
      · rename_i q
        have q : y = a := q
        rw [List.mem_singleton.mp hb]
        exact .inr (q ▸ hp)
      · cases hb
  · rintro (h | h)
    · exact ⟨_, h, by simp⟩
    · exact ⟨_, h, by simp⟩
theorem nb_snoc (es : List Pair) (p : Pair) (a : Nm) : nb (es ++ [p]) a = nb es a ++ ((if p.1 = a then [p.2] else []) ++ if p.2 = a then [p.1] else []) := by
  unfold nb
  rw [List.flatMap_append]
  simp
end Xnp
set_option Elab.async false
set_option linter.all false
set_option maxRecDepth 100000
set_option maxHeartbeats 4000000
set_option pp.maxSteps 400
set_option pp.deepTerms false
/-! Tuples cut, put together, turned about, as lists, whatever the cases; a sign many times. -/
namespace Xtu
open PySem PySem.Spec PyProof.Rows L2
theorem same_upd {H : Hp} {p : Addr} {o : HO} (h : H p = none) : Same H (upd H p o) := fun b x e => by
  rw [upd_ne (ne_of_none e h)]
  exact e
section
variable {X : Cx}
def rSlU : V → Option Int → Option Int → Hp → VK → Prop := fun x lo hi H Q => ∃ a xs, x = .ref a ∧ H a = some (.tup xs) ∧ ∀ p H', L2.Same H H' → H' p = some (.tup (cutV xs lo hi)) → Q (.ref p) H'
theorem sl_tupU : SlR X rSlU := by
  intro pins s σ H x v vl vu lo hi sl Q I rx hs pl pu h
  obtain ⟨a, xs, rfl, e, q⟩ := h
  refine sl_tupA pins s σ H _ v vl vu lo hi sl Q I rx hs pl pu ⟨a, xs, rfl, SqT.of e, fun w => q a H (Same.refl H) ?_, fun _ p np => q p _ (same_upd np) upd_same⟩
  rw [e]
  unfold cutV
  rw [w.1, w.2, List.drop_zero, Nat.sub_zero, List.take_length]
def rCatU : R2 := fun x y H Q => ∃ a b xs ys, x = .ref a ∧ y = .ref b ∧ H a = some (.tup xs) ∧ H b = some (.tup ys) ∧ xs.length + ys.length ≤ sizeLine ∧ ∀ p H', L2.Same H H' → H' p = some (.tup (xs ++ ys)) → Q (.ref p) H'
theorem op_catU : OpR X (binaryOp .Add) rCatU := by
  intro pins s σ H x y v u Q I rx ry h
  obtain ⟨a, b, xs, ys, rfl, rfl, ea, eb, hz, q⟩ := h
  refine op_catA pins s σ H _ _ v u Q I rx ry ⟨a, b, xs, ys, rfl, rfl, SqT.of ea, SqT.of eb, hz, fun z => q b H (Same.refl H) ?_, fun _ z => q a H (Same.refl H) ?_, fun _ _ p np => q p _ (same_upd np) upd_same⟩
  · rw [z]; exact eb
  · rw [z, List.append_nil]; exact ea
end
section
variable {prog : Program} {w : World} {A : Around} {E : Value → Shared → Prop} {s : Shared}
theorem turnN {sl : Addr} {u : Tok} {n : Nat} {Q : Int × Int × Nat → Shared → Prop} (hs : s.heap.IsSliceOf sl .none .none (.int (-1) u)) (h : Q ((n : Int) - 1, -1, n) s) : wpAny (model prog w) A (Builtin.Slice.sliceApplied (.ref sl) (pure (n : Int))) Q E s := by
  obtain ⟨os, a1, a2, a3⟩ := id hs
  unfold Builtin.Slice.sliceApplied Builtin.Slice.sliceFields
  refine wpAny_bind (wpAny_bind (wpAny_field a1 a3 (x := .none) rfl (wpAny_bind (wpAny_field a1 a3 (x := .none) rfl (wpAny_bind (wpAny_field a1 a3 (x := .int (-1) u) rfl (wpAny_pure ?_)))))))
  refine wpAny_bind (slicePart_int ?_)
  show wpAny _ _ (if ((-1 : Int) == 0) = true then _ else _) _ _ s
  rw [if_neg (by decide)]
  have pl : Builtin.Slice.slicePlaces ((n : Int) - 1) (-1) (-1) = n := by
    unfold Builtin.Slice.slicePlaces
    have h1 : ¬ ((-1 : Int) > 0) := by decide
    simp only [h1, if_false, show (- -1 : Int) = 1 by decide, Int.ediv_one]
    split <;> omega
  refine wpAny_bind (slicePart_none (wpAny_bind (slicePart_none (wpAny_bind (wpAny_pure ?_)))))
  show wpAny _ _ (pure ((n : Int) - 1, (-1 : Int), Builtin.Slice.slicePlaces ((n : Int) - 1) (-1) (-1))) _ _ s
  rw [pl]
  exact wpAny_pure h
theorem fm_congr {α β : Type} {f g : α → Option β} : ∀ l : List α, (∀ m ∈ l, f m = g m) → l.filterMap f = l.filterMap g
  | [], _ => rfl
  | a :: r, h => by
    rw [List.filterMap_cons, List.filterMap_cons, h a List.mem_cons_self, fm_congr r fun m hm => h m (List.mem_cons_of_mem _ hm)]
theorem turn_all (xs : Array Value) : ((List.range xs.size).filterMap fun (m : Nat) => xs[((xs.size : Int) - 1 + (m : Int) * -1).toNat]?).toArray = xs.toList.reverse.toArray := by
  have e : ((List.range xs.size).filterMap fun (m : Nat) => xs[((xs.size : Int) - 1 + (m : Int) * -1).toNat]?) = ((List.range xs.size).map fun k => xs.size - 1 - k).filterMap (xs[·]?) := by
    rw [List.filterMap_map]
    refine fm_congr _ fun m hm => ?_
    have := List.mem_range.mp hm
    show xs[((xs.size : Int) - 1 + (m : Int) * -1).toNat]? = xs[xs.size - 1 - m]?
    congr 1
    omega
  rw [e, PySem.W.krv_range, List.filterMap_reverse, PySem.W.krv_all]
theorem itemN {t sl : Addr} {items : Array Value} {u : Tok} {Q : Value → Shared → Prop} (ht : IsTup s.heap t items) (hs : s.heap.IsSliceOf sl .none .none (.int (-1) u)) (hz : items.size ≤ sizeLine)
    (h : Q (.ref s.heap.objs.size) { s with heap := s.heap.push { cls := .type "tuple", data := .seq items.toList.reverse.toArray } }) : wpAny (model prog w) A (getItem (.ref t) (.ref sl)) Q E s := by
  have fits : sizeOk (.seq items.toList.reverse.toArray) := by
    show items.toList.reverse.toArray.size ≤ sizeLine
    rw [List.size_toArray, List.length_reverse, Array.length_toList]
    exact hz
  obtain ⟨os, a1, a2, a3⟩ := id hs
  have ty : s.TypeIs (.ref sl) "slice" := ⟨os, a1, a2⟩
  unfold getItem; try with_reducible refine wpAny_holding ?_
  (first | refine wpAny_bind (wpAny_pure ?_) | skip); refine wpAny_bind (wpAny_sequenceKey ht.typeIs (by decide) ?_)
  refine wpAny_bind (wpAny_callSpecial?_slot (name := Str.ofString "__getitem__") ht.typeIs PyProof.Rows.slot_tuple_getitem (wpAny_call_entry PyProof.Rows.slot_tuple_getitem ht.typeIs entry_tuple_getitem ?_ (args_tuple_getitem _ _)))
  show wpAny _ _ (Builtin.Tuple.tupleItemsOf (.ref t) >>= _) _ _ s; refine wpAny_bind (tupleItemsOf_ ht ?_)
  refine wpAny_bind (wpAny_typeOf ty ?_); rw [if_pos (by decide)]
  refine wpAny_bind (turnN hs ?_)
  show wpAny _ _ (if (((items.size : Int) - 1) == 0 && (-1 : Int) == 1 && (items.size == items.size)) = true then _ else _) _ _ s
  rw [if_neg (by simp), turn_all]
  (first
    | exact wpAny_bind (m := Builtin.Tuple.tupleExact _) (wpAny_newObj_type (wpAny_pure ⟨_, rfl, wpAny_pure h⟩) fits)
    | exact wpAny_bind (m := Builtin.Tuple.tupleExact _) (wpAny_newObj_type (wpAny_bind (wpAny_pure (wpAny_pure ⟨_, rfl, wpAny_pure h⟩))) fits)
    | exact wpAny_bind (wpAny_bind (m := Builtin.Tuple.tupleExact _) (wpAny_newObj_type (wpAny_pure (wpAny_pure ⟨_, rfl, wpAny_pure h⟩)) fits)))
end
section
variable {X : Cx}
def tRevN (K : PySem.W.Frag) (te : TE) : TE := fun σ H Q => te σ H fun x H1 => ∃ (a : Addr) (xs : List V), x = .ref a ∧ H1 a = some (.tup xs) ∧ ∀ p H', L2.Same H1 H' → H' p = some (.tup xs.reverse) → Q (.ref p) H'
theorem pe_revN {e : Expr} {te : TE} {k : Nat} {p1 p2 p3 pos : Pos} (he : PE X e te) : PE X (.Subscript e (.Slice none none (some (.UnaryOp .USub (.Constant (.int 1) k p1) p2)) p3) pos) (tRevN X.K te) := by
  refine ⟨fun pins s σ H Q I h => Subscript_ (thn (he.run pins s σ H _ I h) fun v s1 ⟨x, H1, I1, r1, a, xs, ex, hx, q⟩ => ?_)⟩
  subst ex; cases r1
  have hst : PO X (some (.UnaryOp .USub (.Constant (.int 1) k p1) p2)) (tPart (tUn (rU fun i => .int (-i)) (tC (.int 1)))) := po_some (pe_un un_neg pe_int)
  refine wpAny_Slice (thn (po_none.run pins s1 σ H1 (fun o G => o = none ∧ G = H1) I1 ⟨rfl, rfl⟩) fun vl s2 ⟨l, G, I2, pl, el, e2⟩ => ?_)
  subst el e2
  refine thn (po_none.run pins s2 σ G (fun o G2 => o = none ∧ G2 = G) I2 ⟨rfl, rfl⟩) fun vu s3 ⟨u, G2, I3, pu, eu, e3⟩ => ?_
  subst eu e3
  refine thn (hst.run pins s3 σ G2 (fun o G3 => o = some (-1) ∧ G3 = G2) I3 ⟨1, rfl, -1, rfl, rfl, rfl⟩) fun vs s4 ⟨o, G3, I4, ps, eo, e4⟩ => ?_
  subst eo e4
  cases pl; cases pu
  cases ps with
  | int _ tk =>
  have I5 : Inv X pins σ G3 { s4 with heap := s4.heap.push { cls := .type "slice", data := .fields #[.none, .none, .int (-1) tk] } } := I4.kept (t' := s4.toks) fun b ob q => Heap.get?_push_of_some _ q
  obtain ⟨its, r, ht, hz⟩ := I5.tuple (SqT.of hx)
  have hlen := r.length
  show wpAny (model X.prog X.w) X.A (subscriptTail e (.Slice none none (some (.UnaryOp .USub (.Constant (.int 1) k p1) p2)) p3) (.ref a) (.ref s4.heap.objs.size)) (EP X pins σ Q) X.xe { s4 with heap := s4.heap.push { cls := .type "slice", data := .fields #[.none, .none, .int (-1) tk] } }
  refine tail_any (ops := [.ref a, .ref s4.heap.objs.size]) ht.typeIs PyProof.Rows.slot_tuple_getitem.lookup ?_ (by with_unfolding_all rfl)
  refine itemN ht (Heap.IsSliceOf.new _ _ _ _) (by rw [List.size_toArray]; omega) ?_
  have nw := I5.hok.fresh (Nat.le_refl _)
  refine ⟨.ref _, _, I5.laid (t' := s4.toks) (o := .tup xs.reverse) (fun b ob q => Heap.get?_push_of_some _ q) (Nat.le_refl _) ?_, rfl, q _ _ (same_upd nw) upd_same⟩
  exact ⟨by rw [List.length_reverse]; exact hz, _, r.reverse, IsTup.new _ _⟩
/-- a list of a tuple's things, new -/
theorem cr_listT : CallR X (.type "list") (fun xs H Q => ∃ p ys, xs = [.ref p] ∧ SqT X.K H p ys ∧ ∀ l, H l = none → l ≠ sysModules → Q (.ref l) (upd H l (.lst ys))) := by
  intro pins s σ H xs us Q I r h
  obtain ⟨p, ys, rfl, hq, q⟩ := h
  obtain ⟨u, rfl, rx⟩ := vals1 r; cases rx
  obtain ⟨its, r', ⟨o, ho, hc, n, hd⟩, hz⟩ := I.tuple hq
  have hlen := r'.length
  exact call_list_seq p (.inr rfl) ho hc hd (fun h' c' kp e => ⟨.ref s.heap.objs.size, _, I.laid (t' := s.toks) kp (Nat.le_refl _) (show ObjOk X.prog X.w _ h' _ (.lst ys) from ⟨hz, its, c', r', e⟩), rfl, q _ (I.hok.fresh (Nat.le_refl _)) (Nat.ne_of_gt I.big)⟩) (by simp only [List.size_toArray]; omega)
end
section
variable {X : Cx}
/-- "x" * 41 -/
theorem op_x41 : OpR X (binaryOp .Mult) (fun x y H Q => x = .str "x" ∧ y = .int 41 ∧ ∀ z : Str, z.length = 41 → (∀ c ∈ z.cps.toList, c = 120) → Q (.str z) H) := by
  intro pins s σ H x y v u Q I rx ry h
  obtain ⟨rfl, rfl, q⟩ := h
  obtain ⟨t, rfl⟩ := rx
  obtain ⟨t2, rfl⟩ := ry
  refine PySem.P.mul_str (by decide) (fun _ _ => by decide +kernel) (fun _ _ => by decide +kernel) ⟨by decide +kernel, .str ⟨(List.replicate 41 ("x" : Str).cps).foldl (· ++ ·) #[]⟩, H, I.tok _, ⟨_, rfl⟩, q _ (by decide +kernel) (by decide +kernel)⟩
end
end Xtu
set_option Elab.async false
set_option linter.all false
set_option maxRecDepth 100000
set_option maxHeartbeats 8000000
set_option pp.maxSteps 400
set_option pp.deepTerms false
/-! A dict made of two sources, its keys numbers, texts or tuples of them. -/
namespace Xdc
open PySem PySem.Spec PyProof.Rows L2
/-- nothing goes wrong -/
abbrev no : Value → Shared → Prop := fun _ _ => False
/-- the two sources -/
abbrev two (t0 i0 t1 i1 : Expr) (c0 c1 : List Expr) : List Comprehension := [⟨t0, i0, c0, 0⟩, ⟨t1, i1, c1, 0⟩]
/-- the tests of one source -/
abbrev tst (cs : List Expr) (env : Env) : Sem Bool := forIn cs true fun c r => if r = true then do let z ← isTrue c env (eval c env); pure (ForInStep.yield z) else pure (ForInStep.yield r)
section
variable {kx vx t0 i0 t1 i1 : Expr} {c0 c1 : List Expr} {scope : Scope} {pos : Pos} {it : Value} {D : Addr} {env : Env}
theorem turn0 : compTurn (.DictComp kx vx (two t0 i0 t1 i1 c0 c1) scope pos) 0 it (.ref D) env = (do
      standAt i0.pos
      match ← pyNext it with
      | none => pure (.done .next)
      | some v => letOwnedTupleGo t0 it v; assign t0 env v; let mut z := true
                  for c in c0 do if z then z ← isTrue c env (eval c env)
                  if z then
                    let x ← eval i1 env
                    standAt i1.pos; let x ← foldedSetIterable i1 env x
                    let _ ← runOwn (.compStart (.DictComp kx vx (two t0 i0 t1 i1 c0 c1) scope pos) 1 (← holding [x] (pyIter x)) (.ref D) env) env
                  again (.compLoop (.DictComp kx vx (two t0 i0 t1 i1 c0 c1) scope pos) 0 it (.ref D) env)) := by rfl
theorem turn1 : compTurn (.DictComp kx vx (two t0 i0 t1 i1 c0 c1) scope pos) 1 it (.ref D) env = (do
      standAt i1.pos
      match ← pyNext it with
      | none => pure (.done .next)
      | some v => letOwnedTupleGo t1 it v; assign t1 env v; let mut z := true
                  for c in c1 do if z then z ← isTrue c env (eval c env)
                  if z then
                    (do let k ← eval kx env
                        let y ← holding [k] (eval vx env)
                        standAt { kx.pos with endLine := vx.pos.endLine, endCol := vx.pos.endCol }; holding [k, y] (dictSet D k y))
                  again (.compLoop (.DictComp kx vx (two t0 i0 t1 i1 c0 c1) scope pos) 1 it (.ref D) env)) := by rfl
variable {prog : Program} {w : World} {A : Around} {R : Result → Shared → Prop} {s : Shared}
/-- over the first source -/
theorem loop0 (hs : ∀ x, foldedSetIterable i1 env x = pure x) (G : Nat → Shared → Prop)
    (turn : ∀ n s, G n s → wpAny (model prog w) A (pyNext it) (fun r s1 => match r with
      | none => R (.ok .next) s1
      | some v => wpAny (model prog w) A (letOwnedTupleGo t0 it v) (fun _ s2 => wpAny (model prog w) A (assign t0 env v) (fun _ s3 => wpAny (model prog w) A (tst c0 env) (fun z s4 =>
          if z = true then wpAny (model prog w) A (eval i1 env) (fun x s5 => wpAny (model prog w) A (pyIter x) (fun j s6 =>
            codeAny (model prog w) A (.compStart (.DictComp kx vx (two t0 i0 t1 i1 c0 c1) scope pos) 1 j (.ref D) env) (fun r s7 => match r with
              | .ok _ => ∃ m, m < n ∧ G m s7
              | .error _ => False) s6) no s5) no s4 else ∃ m, m < n ∧ G m s4) no s3) no s2) no s1) no s)
    (n : Nat) (h : G n s) : codeAny (model prog w) A (.compLoop (.DictComp kx vx (two t0 i0 t1 i1 c0 c1) scope pos) 0 it (.ref D) env) R s := by
  refine codeAny_loop rfl G (fun n s hI => ?_) n h
  show wpAny _ A ((compTurn (.DictComp kx vx (two t0 i0 t1 i1 c0 c1) scope pos) 0 it (.ref D) env).onRaise (fun x => do noteFrame x env; theTreesLotGoes x)) _ _ s
  refine wpAny_noted ?_; rw [turn0]
  refine wpAny_bind (wpAny_standAt (wpAny_bind (thnF (turn n s hI) fun r s1 h1 => ?_)))
  cases r with
  | none => exact wpAny_pure h1
  | some v =>
    refine wpAny_bind (thnF h1 fun _ s2 h2 => ?_)
    refine wpAny_bind (thnF h2 fun _ s3 h3 => wpAny_bind (thnF h3 fun z s4 h4 => ?_))
    cases z with
    | false => exact wpAny_pure ⟨rfl, h4⟩
    | true =>
      refine wpAny_bind (thnF h4 fun x s5 h5 => wpAny_bind (wpAny_standAt (wpAny_bind (wpAny_of_eq (hs x) (wpAny_bind (wpAny_holding (thnF h5 fun j s6 h6 => ?_)))))))
      refine wpAny_bind (wpAny_runOwn ?_); rw [Around.mark_none]
      refine codeAny_mono h6 fun r s7 hr => ?_
      cases r with
      | error e => exact hr.elim
      | ok f => first | exact wpAny_pure ⟨rfl, hr⟩ | exact wpAny_bind (wpAny_pure (wpAny_pure ⟨rfl, hr⟩))
/-- over the second -/
theorem loop1 (G : Nat → Shared → Prop)
    (turn : ∀ n s, G n s → wpAny (model prog w) A (pyNext it) (fun r s1 => match r with
      | none => R (.ok .next) s1
      | some v => wpAny (model prog w) A (letOwnedTupleGo t1 it v) (fun _ s2 => wpAny (model prog w) A (assign t1 env v) (fun _ s3 => wpAny (model prog w) A (tst c1 env) (fun z s4 =>
          if z = true then wpAny (model prog w) A (eval kx env) (fun k s5 => wpAny (model prog w) A (eval vx env) (fun y s6 => wpAny (model prog w) A (dictSet D k y) (fun _ s7 => ∃ m, m < n ∧ G m s7) no s6) no s5) no s4
          else ∃ m, m < n ∧ G m s4) no s3) no s2) no s1) no s)
    (n : Nat) (h : G n s) : codeAny (model prog w) A (.compLoop (.DictComp kx vx (two t0 i0 t1 i1 c0 c1) scope pos) 1 it (.ref D) env) R s := by
  refine codeAny_loop rfl G (fun n s hI => ?_) n h
  show wpAny _ A ((compTurn (.DictComp kx vx (two t0 i0 t1 i1 c0 c1) scope pos) 1 it (.ref D) env).onRaise (fun x => do noteFrame x env; theTreesLotGoes x)) _ _ s
  refine wpAny_noted ?_; rw [turn1]
  refine wpAny_bind (wpAny_standAt (wpAny_bind (thnF (turn n s hI) fun r s1 h1 => ?_)))
  cases r with
  | none => exact wpAny_pure h1
  | some v =>
    refine wpAny_bind (thnF h1 fun _ s2 h2 => ?_)
    refine wpAny_bind (thnF h2 fun _ s3 h3 => wpAny_bind (thnF h3 fun z s4 h4 => ?_))
    cases z with
    | false => exact wpAny_pure ⟨rfl, h4⟩
    | true =>
      exact wpAny_bind (wpAny_bind (thnF h4 fun k s5 h5 => wpAny_bind (wpAny_holding (thnF h5 fun y s6 h6 => wpAny_bind (wpAny_standAt (wpAny_holding (thnF h6 fun _ s7 h7 => wpAny_pure ⟨rfl, h7⟩)))))))
/-- the second source's start -/
theorem start1 (h0 : codeAny (model prog w) A (.compLoop (.DictComp kx vx (two t0 i0 t1 i1 c0 c1) scope pos) 1 it (.ref D) env) R s)
    (h : wpAny (model prog w) A (pyIter it) (fun j s1 => codeAny (model prog w) A (.compLoop (.DictComp kx vx (two t0 i0 t1 i1 c0 c1) scope pos) 1 j (.ref D) env) R s1) (notedBy (model prog w) A env fun x s1 => R (.error x) s1) s) :
    codeAny (model prog w) A (.compStart (.DictComp kx vx (two t0 i0 t1 i1 c0 c1) scope pos) 1 it (.ref D) env) R s := by
  refine codeAny_of_tree ?_
  show wpAny _ _ ((compStart (.DictComp kx vx (two t0 i0 t1 i1 c0 c1) scope pos) 1 it (.ref D) env).onRaise (fun x => do noteFrame x env; standAt theWindowsPlace)) _ _ s
  refine wpAny_notedAt ?_; unfold compStart; show wpAny _ _ (ask >>= _) _ _ s
  refine wpAny_bind (wpAny_askSetting (wpAny_ite ?_))
  split
  · first | exact wpAny_bind (wpAny_pure (wpAny_pure (And.intro rfl h0))) | exact wpAny_pure (And.intro rfl h0)
  · first | exact wpAny_bind (wpAny_rule (wpAny_bind (wpAny_standAt (wpAny_bind (thn h fun j s1 z => wpAny_pure (And.intro rfl z))))))
          | (refine wpAny_bind (wpAny_rule ?_); show wpAny _ _ (standAt i1.pos >>= _) _ _ s; exact wpAny_bind (wpAny_standAt (wpAny_bind (thn h fun j s1 z => wpAny_pure (And.intro rfl z)))))
end
/-- d[k] = v as a comprehension does it -/
theorem d_put {X : Cx} {pins : List (Addr × Obj)} {σ : L2.St} {H H' : Hp} {s : Shared} {E : Value → Shared → Prop} {D : Addr} {y z : V} {u r : Value} {Q : Unit → Shared → Prop} (hu : X.A.units < cLine) (I : Inv X pins σ H s) (g : DPut H D y z H') (ry : RelV y u) (rz : RelV z r)
    (h : ∀ s', Inv X pins σ H' s' → Q () s') : wpAny (model X.prog X.w) X.A (dictSet D u r) Q E s := by
  rcases g with ⟨kvs, k, e, ey, l, eH⟩ | ⟨kvs, k, b, e, ey, eb, l, eH⟩
  · subst ey eH
    exact d_dictSet I e l ry rz h
  · subst ey eH
    cases (show u = Value.ref b from ry)
    obtain ⟨z1, hd, xs, rel, dd⟩ := dt_of I.hok e
    have pl := length_putK kvs k z
    refine wpAny_dictSet_heap (hsz := by rw [← Paired.length rel]; exact z1) hu (key_of I.hok eb) dd fun h' dd' hs => h _ ?_
    obtain ⟨q, es, ep, hq, h2, h3, h4, _, h5⟩ := dd'
    refine d_write I (by rw [e]; exact True.intro) hs ⟨q, hq⟩ ⟨by omega, hd, _, (rel.put k eb rz).keeps fun c ys ec => ?_, q, es, ep, hq, h2, h3, h4, h5⟩
    rw [upd_ne (ne_of ec e (fun z => nomatch z))]; exact ec
/-- a source's turns, whatever is done with each thing -/
theorem goes {J : It} {n : Nat} {G : Hp → Prop} {Y : Nat → Hp → V → Hp → Prop} (w : Walk J n G Y) {g : TG} {tt : TT} {B : (Hp → Prop) → L2.St → Hp → Prop} {vs : List Nat} {σ : L2.St} {H0 : Hp} {R : Hp → Prop} (Pv : Nat → Hp → Prop) (h0 : Pv 0 H0) (hG : ∀ i H, i ≤ n → Pv i H → G H)
    (hs : ∀ i x H H', i < n → Pv i H → Y i H x H' → g x (wipe σ vs) H' fun σ2 H2 => wipe σ2 vs = wipe σ vs ∧ tt σ2 H2 fun b H3 => if b = true then B (Pv (i + 1)) σ2 H3 else Pv (i + 1) H3) (hd : ∀ H, Pv n H → R H) :
    ∃ W : Nat → Nat → Hp → Prop, (∃ m, W 0 m H0) ∧ ∀ i m H, W i m H → (J.stop i H ∧ R H) ∨ (J.go i H ∧ ∃ N : Hp → Prop, (∀ H', N H' → ∃ m', m' < m ∧ W (i + 1) m' H') ∧
      ∀ x H', J.yld i H x H' → g x (wipe σ vs) H' fun σ2 H2 => wipe σ2 vs = wipe σ vs ∧ tt σ2 H2 fun b H3 => if b = true then B N σ2 H3 else N H3) := by
  refine ⟨fun i m H => m = n - i ∧ i ≤ n ∧ Pv i H, ⟨n, by simp, Nat.zero_le _, h0⟩, fun i m H ⟨e, hi, p⟩ => ?_⟩
  subst e
  by_cases lt : i < n
  · exact .inr ⟨w.goes i H lt (hG i H hi p), Pv (i + 1), fun H' p' => ⟨n - (i + 1), by omega, rfl, lt, p'⟩, fun x H' y => hs i x H H' lt p (w.yields i H x H' lt (hG i H hi p) y)⟩
  · obtain rfl : i = n := by omega
    exact .inl ⟨w.stops H (hG i H hi p), hd H p⟩
section
variable {X : Cx}
/-- {k: y for t0 in i0 if .. for t1 in i1 if ..}; o: the new dict, of no keys yet; vs the block's names, us those of the second target -/
def tDc2 (o : HO) (wi : TI) (g : TG) (tt : TT) (wj : TI) (gj : TG) (tj : TT) (tk ty : TE) (vs us : List Nat) : TE := fun σ H Q => wi σ H fun J H1 => ∀ D, H1 D = none → ∃ W : Nat → Nat → Hp → Prop, (∃ m, W 0 m (upd H1 D o)) ∧ ∀ i m H, W i m H →
  (J.stop i H ∧ Q (.ref D) H) ∨ (J.go i H ∧ ∃ N : Hp → Prop, (∀ H', N H' → ∃ m', m' < m ∧ W (i + 1) m' H') ∧ ∀ x H', J.yld i H x H' → g x (wipe σ vs) H' fun σ2 H2 => wipe σ2 vs = wipe σ vs ∧ tt σ2 H2 fun b H3 =>
    if b = true then wj σ2 H3 fun L H4 => ∃ V : Nat → Nat → Hp → Prop, (∃ m, V 0 m H4) ∧ ∀ j k H, V j k H →
      (L.stop j H ∧ N H) ∨ (L.go j H ∧ ∃ M : Hp → Prop, (∀ H', M H' → ∃ k', k' < k ∧ V (j + 1) k' H') ∧ ∀ x H', L.yld j H x H' → gj x (wipe σ2 us) H' fun σ3 H5 => wipe σ3 us = wipe σ2 us ∧ tj σ3 H5 fun b H6 =>
        if b = true then tk σ3 H6 fun y H7 => ty σ3 H7 fun z H8 => ∃ H9, DPut H8 D y z H9 ∧ M H9 else M H6)
    else N H3)
variable {kx vx t0 i0 t1 i1 : Expr} {c0 c1 : List Expr} {scope : Scope} {own : List (Str × Nat)} {us : List Nat} {pos pos' : Pos} {wi wj : TI} {g gj : TG} {tt tj : TT} {tk ty : TE} {o : HO}
/-- the context of the block -/
abbrev Bk (X : Cx) (scope : Scope) (s : Shared) (H : Hp) (C : Addr) (cl : List (Str × Addr)) (fp : List Addr) : Cx := X.blk s H scope (compEnvC scope cl C X.env) fp
theorem dc2_core {pins : List (Addr × Obj)} {s : Shared} {σ : L2.St} {H : Hp} {Q : VK} {use : Option (Value → Sem Unit)} {Qf : Value → Shared → Prop} (ho : o = .dK [] ∨ o = .dT []) (hu : X.A.units < cLine)
    (hc : X.calm = true) (hN : X.N.Nodup) (I : Inv X pins σ H s) (hi : PI X t0 i0 wi) (ok : BlkOk X.N X.env.scope scope own) (hv : ∀ i ∈ us, i ∈ own.map (·.2))
    (hg : ∀ s H C cl fp, PG (Bk X scope s H C cl fp) t0 g) (ht : ∀ s H C cl fp, PTs (Bk X scope s H C cl fp) c0 tt)
    (hj : ∀ s H C cl fp, PI (Bk X scope s H C cl fp) t1 i1 wj) (hgj : ∀ s H C cl fp, PG (Bk X scope s H C cl fp) t1 gj) (htj : ∀ s H C cl fp, PTs (Bk X scope s H C cl fp) c1 tj)
    (hk : ∀ s H C cl fp, PE (Bk X scope s H C cl fp) kx tk) (hy : ∀ s H C cl fp, PE (Bk X scope s H C cl fp) vx ty)
    (hs : ∀ x, foldedSetIterable i0 X.env x = pure x) (hs1 : ∀ env x, foldedSetIterable i1 env x = pure x)
    (h : tDc2 o wi g tt wj gj tj tk ty (own.map (·.2)) us σ H Q)
    (fine : ∀ D C s' m H', Inv X pins σ H' s' → Q (.ref D) H' → s'.heap.Ns C m → FpOk X pins H' C → compPost (model X.prog X.w) X.A X.xe use Qf (.ref D) C (.ok .next) s') :
    wpAny (model X.prog X.w) X.A (comprehension (.DictComp kx vx (two t0 i0 t1 i1 c0 c1) scope pos) scope X.env pos' newDict false (eval i0 X.env) use) Qf X.xe s := by
  have free : ∀ y ∈ scope.names, y.2 = .free → ∃ c, X.env.cells.lookup y.1 = some c := fun y hy e => (ok.free y hy e).elim (fun k => I.ok.has _ (.inl k)) fun k => I.ok.has _ (.inr k)
  refine wpAny_comprehension_free (use := use) rfl hs (closure_ok free) ok.kind (fun y hy e => by rw [ok.uniq y hy, e]) (thn (hi.run pins s σ H _ I h) fun xv s1 hx => thn hx fun itv s2 h2 => ?_)
  obtain ⟨it, fp, tn, J, H2, e, I2, T, st2, f2, q⟩ := h2; subst e
  refine wpAny_newObj_type (newEnv_comp ?_)
  generalize hD : s2.heap.objs.size = D
  obtain ⟨W, ⟨m0, w0⟩, turn⟩ := q D (I2.hok.fresh (Nat.le_of_eq hD))
  -- the new dict
  generalize hs3 : ({ s2 with heap := s2.heap.push { cls := .type "dict", data := .dict #[] } } : Shared) = s3
  have I3 : Inv X pins σ (upd H2 D o) s3 := by
    rw [← hs3]
    refine I2.laid (t' := s2.toks) (fun b z e => Heap.get?_push_of_some _ e) (Nat.le_of_eq hD) ?_
    rw [← hD]
    rcases ho with rfl | rfl
    · exact dk_empty s2.heap I2.big
    · exact dt_empty s2.heap I2.big
  have h3 : s3.heap = s2.heap.push { cls := .type "dict", data := .dict #[] } := by rw [← hs3]
  have small : ∀ b ∈ fp, b < s2.heap.objs.size := fun b hb => let ⟨z, e, _⟩ := T.obj _ _ st2 b hb; Heap.lt_size e
  have f3 : ∀ b ∈ fp, FpOk X pins (upd H2 D o) b ∧ b < s3.heap.objs.size := fun b hb =>
    ⟨⟨by rw [upd_ne (by rw [← hD]; exact Nat.ne_of_lt (small b hb))]; exact (f2 b hb).1, (f2 b hb).2⟩, by rw [h3, Heap.size_push]; exact Nat.lt_succ_of_lt (small b hb)⟩
  have st3 : tn 0 s3.heap := T.keep _ _ _ st2 fun b _ z e => by rw [h3]; exact Heap.get?_push_of_some _ e
  have I4 := block_start I3 ok hN f3
  generalize hcl : cellsFrom (s3.heap.objs.size + 1) scope.names (cloFrom X.env.cells scope.names []) = cl at I4 ⊢
  have pg := hg s3 (upd H2 D o) s3.heap.objs.size cl fp; have pt := ht s3 (upd H2 D o) s3.heap.objs.size cl fp; have pk := hk s3 (upd H2 D o) s3.heap.objs.size cl fp; have py := hy s3 (upd H2 D o) s3.heap.objs.size cl fp
  have pj := hj s3 (upd H2 D o) s3.heap.objs.size cl fp; have pgj := hgj s3 (upd H2 D o) s3.heap.objs.size cl fp; have ptj := htj s3 (upd H2 D o) s3.heap.objs.size cl fp
  show codeAny _ _ (.compStart (.DictComp kx vx (two t0 i0 t1 i1 c0 c1) scope pos) 0 (.ref it) (.ref D) (compEnvC scope cl s3.heap.objs.size X.env)) (compPost (model X.prog X.w) X.A X.xe use Qf (.ref D) s3.heap.objs.size) { s3 with heap := pushCells (s3.heap.push { cls := .type "dict", data := .dict #[] }) scope.names }
  have nfp : ∀ b ∈ fp, (upd H2 D o) b = none := fun b hb => (f3 b hb).1.1
  generalize hce : compEnvC scope cl s3.heap.objs.size X.env = ce at I4 ⊢
  have cL : ce.locals = s3.heap.objs.size := by subst hce; rfl
  unfold Bk at pg pt pk py pj pgj ptj
  rw [hce] at pg pt pk py pj pgj ptj
  generalize hH3 : upd H2 D o = H3 at I3 I4 pg pt pk py pj pgj ptj w0 nfp f3
  generalize hs4 : ({ s3 with heap := pushCells (s3.heap.push { cls := .type "dict", data := .dict #[] }) scope.names } : Shared) = s4 at I4 ⊢
  have st4 : tn 0 s4.heap := T.keep _ _ _ st3 fun b _ z e => by rw [← hs4]; exact pushCells_keeps _ _ _ _ (Heap.get?_push_of_some _ e)
  generalize hY : X.blk s3 H3 scope ce fp = Y at I4 pg pt pk py pj pgj ptj
  have yc : Y.calm = true := by subst hY; exact hc
  have stat : ∀ {σ' : L2.St} {H' : Hp} {s' : Shared}, Inv Y [] σ' H' s' → (∀ b ∈ fp, H' b = none) → ∀ b ∈ fp, FpOk Y [] H' b := by
    subst hY
    exact fun {σ' H' s'} I' hn b hb => ⟨hn b hb, (I'.ok.exf b hb).1, I'.ok.exfs b hb, .inl hb, fun x c e => (I'.ok.exf b hb).2 x c e, fun p hp => absurd (show p ∈ ([] : List (Addr × Obj)) ++ [] from hp) (by simp)⟩
  -- a turn's ends, of whichever source
  have same : ∀ {P : List (Addr × Obj)} {ch : List Addr} {hp : Heap} {σ' : L2.St} {H' : Hp} {s' : Shared}, Inv Y (P ++ pinsAt ch hp) σ' H' s' → ∀ b ∈ ch, ∀ z, hp.get? b = some z → s'.heap.get? b = some z ∧ H' b = none := by
    subst hY
    exact fun {P ch hp σ' H' s'} I' b hb z e => let q := I'.pin (b, z) (List.mem_append_right _ (List.mem_append_right _ (mem_pinsAt hb e))); ⟨q.1, q.2.1⟩
  have loop : codeAny (model X.prog X.w) X.A (.compLoop (.DictComp kx vx (two t0 i0 t1 i1 c0 c1) scope pos) 0 (.ref it) (.ref D) ce) (compPost (model X.prog X.w) X.A X.xe use Qf (.ref D) s3.heap.objs.size) s4 := by
    refine loop0 (hs1 ce) (fun n s' => ∃ i H', Inv Y [] (wipe σ (own.map (·.2))) H' s' ∧ tn i s'.heap ∧ (∀ b ∈ fp, H' b = none) ∧ W i n H') ?_ m0 ⟨0, H3, I4, st4, nfp, w0⟩
    rintro n s5 ⟨i, H5, I5, st5, n5, w5⟩
    rcases turn i n H5 w5 with ⟨stop, qq⟩ | ⟨go, N, hNx, step⟩
    · have td := T.done Y (by subst hY; rfl) (by subst hY; rfl) (by subst hY; rfl) yc i [] s5 _ H5 no I5 (stat I5 n5) st5 stop
      subst hY
      refine thnF td fun r s6 ⟨hr, I6⟩ => ?_
      subst hr
      have nC : H5 s3.heap.objs.size = none := by have z : H5 ce.locals = none := I6.free; rwa [cL] at z
      obtain ⟨m, hn, _⟩ := I6.loc
      have hn : s6.heap.Ns ce.locals m := hn
      rw [cL] at hn
      exact fine D s3.heap.objs.size s6 m H5 (I3.call' (ch := fp) I6.os I6.base I6.hok I6.bare fun b hb => ⟨(f3 b hb).1.2.2.2.1, (f3 b hb).1.2.1, (f3 b hb).1.2.2.2.2.1, (f3 b hb).1.2.2.2.2.2⟩) qq hn (I3.fpOk (Nat.le_refl _) nC)
    · have ti := T.item Y (by subst hY; rfl) (by subst hY; rfl) (by subst hY; rfl) yc i [] s5 _ H5 no I5 (stat I5 n5) st5 go
      subst hY
      refine thnF ti fun r s6 ⟨u, hr, h6⟩ => ?_
      subst hr
      refine thnF h6 fun _ s7 ⟨x, H7, I7, r7, y7, st7, n7⟩ => thnF (pg.run _ s7 _ H7 x u _ (I7.pinned (stat I7 n7) (T.obj _ _ st7)) r7 (step x H7 y7)) fun _ s8 ⟨σ8, H8, I8, hw8, q8⟩ => thnF (pt.run _ s8 σ8 H8 _ I8 q8) fun b s9 ⟨H9, I9, q9⟩ => ?_
      -- this turn's end
      have fin : ∀ {σ' : L2.St} {s' : Shared} {H' : Hp}, Inv (X.blk s3 H3 scope ce fp) ([] ++ pinsAt fp s7.heap) σ' H' s' → (wipe σ (own.map (·.2))).length = σ'.length → (∀ (j : Nat) v, (wipe σ (own.map (·.2)))[j]? = some (some v) → σ'[j]? = some (some v)) → N H' →
          ∃ m, m < n ∧ ∃ i H', Inv (X.blk s3 H3 scope ce fp) [] (wipe σ (own.map (·.2))) H' s' ∧ tn i s'.heap ∧ (∀ b ∈ fp, H' b = none) ∧ W i m H' := fun {σ' s' H'} I' hl hk nx => by
        obtain ⟨m', hm, w'⟩ := hNx H' nx
        exact ⟨m', hm, i + 1, H', (I'.unpinned (pins := [])).weak hl hk, T.keep _ _ _ st7 fun b hb z e => (same I' b hb z e).1, fun b hb => let ⟨z, e, _⟩ := T.obj _ _ st7 b hb; (same I' b hb z e).2, w'⟩
      have hl8 : (wipe σ (own.map (·.2))).length = σ8.length := by rw [← hw8, wipe_length]
      have hk8 : ∀ (j : Nat) v, (wipe σ (own.map (·.2)))[j]? = some (some v) → σ8[j]? = some (some v) := fun j v e => by rw [← hw8] at e; exact (wipe_some e).1
      have hk9 : ∀ (j : Nat) v, (wipe σ (own.map (·.2)))[j]? = some (some v) → (wipe σ8 us)[j]? = some (some v) := fun j v e => by
        rw [← hw8] at e
        rw [wipe_out fun z => (wipe_some e).2 (hv j z)]; exact (wipe_some e).1
      cases b with
      | false =>
        simp only [Bool.false_eq_true, if_false] at q9 ⊢; exact fin I9 hl8 hk8 q9
      | true =>
        simp only [if_true] at q9 ⊢
        refine thnF (pj.run _ s9 σ8 H9 _ I9 q9) fun xv s10 hx => thnF hx fun itv s11 h11 => ?_
        obtain ⟨jt, gp, tm, L, H11, e1, I11, T1, st11, f11, V, ⟨m1, w1⟩, turn1⟩ := h11; subst e1
        -- the inner loop
        have stat1 : ∀ {H' : Hp}, (∀ b ∈ gp, H' b = none) → ∀ b ∈ gp, FpOk (X.blk s3 H3 scope ce fp) ([] ++ pinsAt fp s7.heap) H' b := fun hn b hb => ⟨hn b hb, (f11 b hb).2⟩
        have inner : codeAny (model X.prog X.w) X.A (.compLoop (.DictComp kx vx (two t0 i0 t1 i1 c0 c1) scope pos) 1 (.ref jt) (.ref D) ce) (fun r s' => match r with
              | .ok _ => ∃ m, m < n ∧ ∃ i H', Inv (X.blk s3 H3 scope ce fp) [] (wipe σ (own.map (·.2))) H' s' ∧ tn i s'.heap ∧ (∀ b ∈ fp, H' b = none) ∧ W i m H'
              | .error _ => False) s11 := by
          refine loop1 (fun k s' => ∃ j H', Inv (X.blk s3 H3 scope ce fp) ([] ++ pinsAt fp s7.heap) (wipe σ8 us) H' s' ∧ tm j s'.heap ∧ (∀ b ∈ gp, H' b = none) ∧ V j k H') ?_ m1 ⟨0, H11, I11.weak (wipe_length _ _) (fun j v e => (wipe_some e).1), st11, fun b hb => (f11 b hb).1, w1⟩
          rintro k s12 ⟨j, H12, I12, st12, n12, w12⟩
          rcases turn1 j k H12 w12 with ⟨stop1, nx1⟩ | ⟨go1, M, hM, step1⟩
          · refine thnF (T1.done (X.blk s3 H3 scope ce fp) rfl rfl rfl hc j _ s12 (wipe σ8 us) H12 no I12 (stat1 n12) st12 stop1) fun r s13 ⟨hr, I13⟩ => ?_
            subst hr; exact fin I13 (hl8.trans (wipe_length σ8 us).symm) hk9 nx1
          · refine thnF (T1.item (X.blk s3 H3 scope ce fp) rfl rfl rfl hc j _ s12 (wipe σ8 us) H12 no I12 (stat1 n12) st12 go1) fun r s13 ⟨u1, hr, h13⟩ => ?_
            subst hr
            refine thnF h13 fun _ s14 ⟨x1, H14, I14, r14, y14, st14, n14⟩ => thnF (pgj.run _ s14 (wipe σ8 us) H14 x1 u1 _ (I14.pinned (stat1 n14) (T1.obj _ _ st14)) r14 (step1 x1 H14 y14)) fun _ s15 ⟨σ15, H15, I15, hw15, q15⟩ => thnF (ptj.run _ s15 σ15 H15 _ I15 q15) fun b1 s16 ⟨H16, I16, q16⟩ => ?_
            have fin1 : ∀ {s' : Shared} {H' : Hp}, Inv (X.blk s3 H3 scope ce fp) (([] ++ pinsAt fp s7.heap) ++ pinsAt gp s14.heap) σ15 H' s' → M H' → ∃ m, m < k ∧ ∃ j H', Inv (X.blk s3 H3 scope ce fp) ([] ++ pinsAt fp s7.heap) (wipe σ8 us) H' s' ∧ tm j s'.heap ∧ (∀ b ∈ gp, H' b = none) ∧ V j m H' := fun {s' H'} I' nx => by
              obtain ⟨m', hm, w'⟩ := hM H' nx
              exact ⟨m', hm, j + 1, H', I'.unpinned.weak (by rw [← hw15, wipe_length]) (fun j v e => by rw [← hw15] at e; exact (wipe_some e).1), T1.keep _ _ _ st14 fun b hb z e => (same I' b hb z e).1, fun b hb => let ⟨z, e, _⟩ := T1.obj _ _ st14 b hb; (same I' b hb z e).2, w'⟩
            cases b1 with
            | false =>
              simp only [Bool.false_eq_true, if_false] at q16 ⊢; exact fin1 I16 q16
            | true =>
              simp only [if_true] at q16 ⊢
              refine thnF (pk.run _ s16 σ15 H16 _ I16 q16) fun z s17 ⟨yv, H17, I17, r17, q17⟩ => thnF (py.run _ s17 σ15 H17 _ I17 q17) fun z2 s18 ⟨yv2, H18, I18, r18, H19, put, nx⟩ => ?_
              exact d_put (X := X.blk s3 H3 scope ce fp) hu I18 put r17 r18 fun s19 I19 => fin1 I19 nx
        exact start1 inner (T1.self X.A 0 _ _ _ st11 inner)
  exact codeAny_compStart_dict loop (T.self X.A 0 _ _ _ st4 loop)
/-- as a value -/
theorem pe_dc2 (o : HO) (ho : o = .dK [] ∨ o = .dT []) (hu : X.A.units < cLine) (hc : X.calm = true) (hN : X.N.Nodup) (hi : PI X t0 i0 wi) (ok : BlkOk X.N X.env.scope scope own) (hv : ∀ i ∈ us, i ∈ own.map (·.2))
    (hg : ∀ s H C cl fp, PG (Bk X scope s H C cl fp) t0 g) (ht : ∀ s H C cl fp, PTs (Bk X scope s H C cl fp) c0 tt)
    (hj : ∀ s H C cl fp, PI (Bk X scope s H C cl fp) t1 i1 wj) (hgj : ∀ s H C cl fp, PG (Bk X scope s H C cl fp) t1 gj) (htj : ∀ s H C cl fp, PTs (Bk X scope s H C cl fp) c1 tj)
    (hk : ∀ s H C cl fp, PE (Bk X scope s H C cl fp) kx tk) (hy : ∀ s H C cl fp, PE (Bk X scope s H C cl fp) vx ty)
    (hs : ∀ x, foldedSetIterable i0 X.env x = pure x := by intro _; rfl) (hs1 : ∀ env x, foldedSetIterable i1 env x = pure x := by intro _ _; rfl) :
    PE X (.DictComp kx vx [⟨t0, i0, c0, 0⟩, ⟨t1, i1, c1, 0⟩] scope pos) (tDc2 o wi g tt wj gj tj tk ty (own.map (·.2)) us) := by
  refine ⟨fun pins s σ H Q I h => ?_⟩; rw [arm_eval_DictComp]
  refine dc2_core ho hu hc hN I hi ok hv hg ht hj hgj htj hk hy hs hs1 h fun D C s' m H' I' q hn f => ⟨m, hn, fun h'' sb => ?_⟩
  obtain ⟨f0, f1, f2, f3, f4, f5⟩ := f
  exact ⟨.ref D, H', I'.turned (t' := s'.toks) (fun b z hb e => (sb.2 b hb).trans e) f0 f1 f3 f4 f5, rfl, q⟩
end
end Xdc
set_option Elab.async false
set_option linter.all false
set_option maxRecDepth 100000
set_option maxHeartbeats 4000000
set_option pp.maxSteps 400
/-! a dict comprehension with one for, keys numbers, texts or tuples -/
namespace Xd1
open PySem PySem.Spec PyProof.Rows L2 Xdc
section
variable {X : Cx}
/-- {k: y for t0 in i0 if ..}; o: the new dict, of no keys yet; vs the block's names -/
def tDc1 (o : HO) (wi : TI) (g : TG) (tt : TT) (tk ty : TE) (vs : List Nat) : TE := fun σ H Q => wi σ H fun J H1 => ∀ D, H1 D = none → ∃ W : Nat → Nat → Hp → Prop, (∃ m, W 0 m (upd H1 D o)) ∧ ∀ i m H, W i m H →
  (J.stop i H ∧ Q (.ref D) H) ∨ (J.go i H ∧ ∃ N : Hp → Prop, (∀ H', N H' → ∃ m', m' < m ∧ W (i + 1) m' H') ∧ ∀ x H', J.yld i H x H' → g x (wipe σ vs) H' fun σ2 H2 => wipe σ2 vs = wipe σ vs ∧ tt σ2 H2 fun b H3 =>
    if b = true then tk σ2 H3 fun y H7 => ty σ2 H7 fun z H8 => ∃ H9, DPut H8 D y z H9 ∧ N H9 else N H3)
variable {kx vx t0 i0 : Expr} {c0 : List Expr} {scope : Scope} {own : List (Str × Nat)} {pos pos' : Pos} {wi : TI} {g : TG} {tt : TT} {tk ty : TE} {o : HO}
theorem dc1_core {pins : List (Addr × Obj)} {s : Shared} {σ : L2.St} {H : Hp} {Q : VK} {use : Option (Value → Sem Unit)} {Qf : Value → Shared → Prop} (ho : o = .dK [] ∨ o = .dT []) (hu : X.A.units < cLine)
    (hc : X.calm = true) (hN : X.N.Nodup) (I : Inv X pins σ H s) (hi : PI X t0 i0 wi) (ok : BlkOk X.N X.env.scope scope own)
    (hg : ∀ s H C cl fp, PG (Bk X scope s H C cl fp) t0 g) (ht : ∀ s H C cl fp, PTs (Bk X scope s H C cl fp) c0 tt)
    (hk : ∀ s H C cl fp, PE (Bk X scope s H C cl fp) kx tk) (hy : ∀ s H C cl fp, PE (Bk X scope s H C cl fp) vx ty)
    (hs : ∀ x, foldedSetIterable i0 X.env x = pure x)
    (h : tDc1 o wi g tt tk ty (own.map (·.2)) σ H Q)
    (fine : ∀ D C s' m H', Inv X pins σ H' s' → Q (.ref D) H' → s'.heap.Ns C m → FpOk X pins H' C → compPost (model X.prog X.w) X.A X.xe use Qf (.ref D) C (.ok .next) s') :
    wpAny (model X.prog X.w) X.A (comprehension (.DictComp kx vx [⟨t0, i0, c0, 0⟩] scope pos) scope X.env pos' newDict false (eval i0 X.env) use) Qf X.xe s := by
  have free : ∀ y ∈ scope.names, y.2 = .free → ∃ c, X.env.cells.lookup y.1 = some c := fun y hy e => (ok.free y hy e).elim (fun k => I.ok.has _ (.inl k)) fun k => I.ok.has _ (.inr k)
  refine wpAny_comprehension_free (use := use) rfl hs (closure_ok free) ok.kind (fun y hy e => by rw [ok.uniq y hy, e]) (thn (hi.run pins s σ H _ I h) fun xv s1 hx => thn hx fun itv s2 h2 => ?_)
  obtain ⟨it, fp, tn, J, H2, e, I2, T, st2, f2, q⟩ := h2; subst e
  refine wpAny_newObj_type (newEnv_comp ?_)
  generalize hD : s2.heap.objs.size = D
  obtain ⟨W, ⟨m0, w0⟩, turn⟩ := q D (I2.hok.fresh (Nat.le_of_eq hD))
  -- the new dict
  generalize hs3 : ({ s2 with heap := s2.heap.push { cls := .type "dict", data := .dict #[] } } : Shared) = s3
  have I3 : Inv X pins σ (upd H2 D o) s3 := by
    rw [← hs3]
    refine I2.laid (t' := s2.toks) (fun b z e => Heap.get?_push_of_some _ e) (Nat.le_of_eq hD) ?_
    rw [← hD]
    rcases ho with rfl | rfl
    · exact dk_empty s2.heap I2.big
    · exact dt_empty s2.heap I2.big
  have h3 : s3.heap = s2.heap.push { cls := .type "dict", data := .dict #[] } := by rw [← hs3]
  have small : ∀ b ∈ fp, b < s2.heap.objs.size := fun b hb => let ⟨z, e, _⟩ := T.obj _ _ st2 b hb; Heap.lt_size e
  have f3 : ∀ b ∈ fp, FpOk X pins (upd H2 D o) b ∧ b < s3.heap.objs.size := fun b hb =>
    ⟨⟨by rw [upd_ne (by rw [← hD]; exact Nat.ne_of_lt (small b hb))]; exact (f2 b hb).1, (f2 b hb).2⟩, by rw [h3, Heap.size_push]; exact Nat.lt_succ_of_lt (small b hb)⟩
  have st3 : tn 0 s3.heap := T.keep _ _ _ st2 fun b _ z e => by rw [h3]; exact Heap.get?_push_of_some _ e
  have I4 := block_start I3 ok hN f3
  generalize hcl : cellsFrom (s3.heap.objs.size + 1) scope.names (cloFrom X.env.cells scope.names []) = cl at I4 ⊢
  have pg := hg s3 (upd H2 D o) s3.heap.objs.size cl fp; have pt := ht s3 (upd H2 D o) s3.heap.objs.size cl fp; have pk := hk s3 (upd H2 D o) s3.heap.objs.size cl fp; have py := hy s3 (upd H2 D o) s3.heap.objs.size cl fp
  show codeAny _ _ (.compStart (.DictComp kx vx [⟨t0, i0, c0, 0⟩] scope pos) 0 (.ref it) (.ref D) (compEnvC scope cl s3.heap.objs.size X.env)) (compPost (model X.prog X.w) X.A X.xe use Qf (.ref D) s3.heap.objs.size) { s3 with heap := pushCells (s3.heap.push { cls := .type "dict", data := .dict #[] }) scope.names }
  have nfp : ∀ b ∈ fp, (upd H2 D o) b = none := fun b hb => (f3 b hb).1.1
  generalize hce : compEnvC scope cl s3.heap.objs.size X.env = ce at I4 ⊢
  have cL : ce.locals = s3.heap.objs.size := by subst hce; rfl
  unfold Bk at pg pt pk py
  rw [hce] at pg pt pk py
  generalize hH3 : upd H2 D o = H3 at I3 I4 pg pt pk py w0 nfp f3
  generalize hs4 : ({ s3 with heap := pushCells (s3.heap.push { cls := .type "dict", data := .dict #[] }) scope.names } : Shared) = s4 at I4 ⊢
  have st4 : tn 0 s4.heap := T.keep _ _ _ st3 fun b _ z e => by rw [← hs4]; exact pushCells_keeps _ _ _ _ (Heap.get?_push_of_some _ e)
  generalize hY : X.blk s3 H3 scope ce fp = Y at I4 pg pt pk py
  have yc : Y.calm = true := by subst hY; exact hc
  have stat : ∀ {σ' : L2.St} {H' : Hp} {s' : Shared}, Inv Y [] σ' H' s' → (∀ b ∈ fp, H' b = none) → ∀ b ∈ fp, FpOk Y [] H' b := by
    subst hY
    exact fun {σ' H' s'} I' hn b hb => ⟨hn b hb, (I'.ok.exf b hb).1, I'.ok.exfs b hb, .inl hb, fun x c e => (I'.ok.exf b hb).2 x c e, fun p hp => absurd (show p ∈ ([] : List (Addr × Obj)) ++ [] from hp) (by simp)⟩
  -- a turn's ends, of whichever source
  have same : ∀ {P : List (Addr × Obj)} {ch : List Addr} {hp : Heap} {σ' : L2.St} {H' : Hp} {s' : Shared}, Inv Y (P ++ pinsAt ch hp) σ' H' s' → ∀ b ∈ ch, ∀ z, hp.get? b = some z → s'.heap.get? b = some z ∧ H' b = none := by
    subst hY
    exact fun {P ch hp σ' H' s'} I' b hb z e => let q := I'.pin (b, z) (List.mem_append_right _ (List.mem_append_right _ (mem_pinsAt hb e))); ⟨q.1, q.2.1⟩
  have loop : codeAny (model X.prog X.w) X.A (.compLoop (.DictComp kx vx [⟨t0, i0, c0, 0⟩] scope pos) 0 (.ref it) (.ref D) ce) (compPost (model X.prog X.w) X.A X.xe use Qf (.ref D) s3.heap.objs.size) s4 := by
    refine compLoop_anyD (fun n s' => ∃ i H', Inv Y [] (wipe σ (own.map (·.2))) H' s' ∧ tn i s'.heap ∧ (∀ b ∈ fp, H' b = none) ∧ W i n H') ?_ m0 ⟨0, H3, I4, st4, nfp, w0⟩
    rintro n s5 ⟨i, H5, I5, st5, n5, w5⟩
    rcases turn i n H5 w5 with ⟨stop, qq⟩ | ⟨go, N, hNx, step⟩
    · have td := T.done Y (by subst hY; rfl) (by subst hY; rfl) (by subst hY; rfl) yc i [] s5 _ H5 no I5 (stat I5 n5) st5 stop
      subst hY
      refine thnF td fun r s6 ⟨hr, I6⟩ => ?_
      subst hr
      have nC : H5 s3.heap.objs.size = none := by have z : H5 ce.locals = none := I6.free; rwa [cL] at z
      obtain ⟨m, hn, _⟩ := I6.loc
      have hn : s6.heap.Ns ce.locals m := hn
      rw [cL] at hn
      exact fine D s3.heap.objs.size s6 m H5 (I3.call' (ch := fp) I6.os I6.base I6.hok I6.bare fun b hb => ⟨(f3 b hb).1.2.2.2.1, (f3 b hb).1.2.1, (f3 b hb).1.2.2.2.2.1, (f3 b hb).1.2.2.2.2.2⟩) qq hn (I3.fpOk (Nat.le_refl _) nC)
    · have ti := T.item Y (by subst hY; rfl) (by subst hY; rfl) (by subst hY; rfl) yc i [] s5 _ H5 no I5 (stat I5 n5) st5 go
      subst hY
      refine thnF ti fun r s6 ⟨u, hr, h6⟩ => ?_
      subst hr
      refine thnF h6 fun _ s7 ⟨x, H7, I7, r7, y7, st7, n7⟩ => thnF (pg.run _ s7 _ H7 x u _ (I7.pinned (stat I7 n7) (T.obj _ _ st7)) r7 (step x H7 y7)) fun _ s8 ⟨σ8, H8, I8, hw8, q8⟩ => thnF (pt.run _ s8 σ8 H8 _ I8 q8) fun b s9 ⟨H9, I9, q9⟩ => ?_
      -- this turn's end
      have fin : ∀ {σ' : L2.St} {s' : Shared} {H' : Hp}, Inv (X.blk s3 H3 scope ce fp) ([] ++ pinsAt fp s7.heap) σ' H' s' → (wipe σ (own.map (·.2))).length = σ'.length → (∀ (j : Nat) v, (wipe σ (own.map (·.2)))[j]? = some (some v) → σ'[j]? = some (some v)) → N H' →
          ∃ m, m < n ∧ ∃ i H', Inv (X.blk s3 H3 scope ce fp) [] (wipe σ (own.map (·.2))) H' s' ∧ tn i s'.heap ∧ (∀ b ∈ fp, H' b = none) ∧ W i m H' := fun {σ' s' H'} I' hl hk nx => by
        obtain ⟨m', hm, w'⟩ := hNx H' nx
        exact ⟨m', hm, i + 1, H', (I'.unpinned (pins := [])).weak hl hk, T.keep _ _ _ st7 fun b hb z e => (same I' b hb z e).1, fun b hb => let ⟨z, e, _⟩ := T.obj _ _ st7 b hb; (same I' b hb z e).2, w'⟩
      have hl8 : (wipe σ (own.map (·.2))).length = σ8.length := by rw [← hw8, wipe_length]
      have hk8 : ∀ (j : Nat) v, (wipe σ (own.map (·.2)))[j]? = some (some v) → σ8[j]? = some (some v) := fun j v e => by rw [← hw8] at e; exact (wipe_some e).1
      cases b with
      | false =>
        simp only [Bool.false_eq_true, if_false] at q9 ⊢; exact fin I9 hl8 hk8 q9
      | true =>
        simp only [if_true] at q9 ⊢
        refine thnF (pk.run _ s9 σ8 H9 _ I9 q9) fun z s10 ⟨yv, H10, I10, r10, q10⟩ => thnF (py.run _ s10 σ8 H10 _ I10 q10) fun z2 s11 ⟨yv2, H11, I11, r11, H12, put, nx⟩ => ?_
        exact d_put (X := X.blk s3 H3 scope ce fp) hu I11 put r10 r11 fun s12 I12 => fin I12 hl8 hk8 nx
  exact codeAny_compStart_dict loop (T.self X.A 0 _ _ _ st4 loop)
/-- as a value -/
theorem pe_dc1 (o : HO) (ho : o = .dK [] ∨ o = .dT []) (hu : X.A.units < cLine) (hc : X.calm = true) (hN : X.N.Nodup) (hi : PI X t0 i0 wi) (ok : BlkOk X.N X.env.scope scope own)
    (hg : ∀ s H C cl fp, PG (Bk X scope s H C cl fp) t0 g) (ht : ∀ s H C cl fp, PTs (Bk X scope s H C cl fp) c0 tt)
    (hk : ∀ s H C cl fp, PE (Bk X scope s H C cl fp) kx tk) (hy : ∀ s H C cl fp, PE (Bk X scope s H C cl fp) vx ty)
    (hs : ∀ x, foldedSetIterable i0 X.env x = pure x := by intro _; rfl) :
    PE X (.DictComp kx vx [⟨t0, i0, c0, 0⟩] scope pos) (tDc1 o wi g tt tk ty (own.map (·.2))) := by
  refine ⟨fun pins s σ H Q I h => ?_⟩; rw [arm_eval_DictComp]
  refine dc1_core ho hu hc hN I hi ok hg ht hk hy hs h fun D C s' m H' I' q hn f => ⟨m, hn, fun h'' sb => ?_⟩
  obtain ⟨f0, f1, f2, f3, f4, f5⟩ := f
  exact ⟨.ref D, H', I'.turned (t' := s'.toks) (fun b z hb e => (sb.2 b hb).trans e) f0 f1 f3 f4 f5, rfl, q⟩
/-- name = {..} on one line, the name a local -/
theorem ps_setDc1 {i : Nat} {y : Str} {py spos : Pos} (o : HO) (ho : o = .dK [] ∨ o = .dT []) (hu : X.A.units < cLine) (hc : X.calm = true) (hN : X.N.Nodup) (hy1 : X.N[i]? = some y) (hy2 : X.env.scope.names.lookup y = some .local)
    (hsw : swapsWith (.DictComp kx vx [⟨t0, i0, c0, 0⟩] scope pos) (some (.Name y py)) spos.line X.env = pure true) (hi : PI X t0 i0 wi) (ok : BlkOk X.N X.env.scope scope own)
    (hg : ∀ s H C cl fp, PG (Bk X scope s H C cl fp) t0 g) (ht : ∀ s H C cl fp, PTs (Bk X scope s H C cl fp) c0 tt)
    (hk : ∀ s H C cl fp, PE (Bk X scope s H C cl fp) kx tk) (hy : ∀ s H C cl fp, PE (Bk X scope s H C cl fp) vx ty)
    (hs : ∀ x, foldedSetIterable i0 X.env x = pure x := by intro _; rfl) :
    PS X (.Assign [.Name y py] (.DictComp kx vx [⟨t0, i0, c0, 0⟩] scope pos) spos) (tAsg (tDc1 o wi g tt tk ty (own.map (·.2))) (gName i)) := by
  refine ⟨fun pins s σ H B I h => ?_⟩; rw [exec_Assign_Name_used _ _ _ _ hsw]
  have h : tDc1 o wi g tt tk ty (own.map (·.2)) σ H (fun x H1 => gName i x σ H1 B.nx) := h
  refine wpAny_bind (wpAny_standAt (wpAny_bind (?_ : wpAny _ X.A (do let _ ← comprehension (.DictComp kx vx [⟨t0, i0, c0, 0⟩] scope pos) scope X.env (firstIterPos [⟨t0, i0, c0, 0⟩] pos) newDict false (eval i0 X.env) (some (assign (.Name y py) X.env))) _ _ s)))
  refine wpAny_bind (thn (dc1_core (Qf := fun _ s' => SP X pins B .next s') ho hu hc hN I hi ok hg ht hk hy hs h fun L C s' m H' I' q hn f => (?_ : wpAny _ _ (assign (.Name y py) X.env (.ref L)) _ _ _)) fun _ s' hq => wpAny_pure (wpAny_pure hq))
  refine wpAny_assign_Name (store_ok2 (v := V.ref L) I' hN hy1 (.inl hy2) rfl (fun s2 I2 ⟨a, sb, ha⟩ => ?_) (.inr hy2))
  obtain ⟨g0, g1, g2, g3, g4, g5⟩ := f
  have na : C ≠ a := ha.elim (fun z => by rw [z]; exact g1) fun z e => g4 y a z e.symm
  exact ⟨m, hn.sameBut sb na, fun h3 sb3 => ⟨_, H', I2.turned (t' := s2.toks) (fun b z hb e => (sb3.2 b hb).trans e) g0 g1 g3 g4 g5, q⟩⟩
theorem sw_dc {gs : List Comprehension} {py : Pos} {y : Str} {l : Nat} {env : Env} (hk : env.scope.kind = .function) (hy : env.scope.names.lookup y = some .local) (hl : (py.line == pos.line) = true)
    (ha : (scope.names.any fun (n, k) => n == y && (k == .local || k == .cell)) = false) : swapsWith (.DictComp kx vx gs scope pos) (some (.Name y py)) l env = pure true := by
  have k1 : env.kindOf y = some .local := hy
  have k2 : env.blockKind = .function := by unfold Env.blockKind; rw [hk]; rfl
  unfold swapsWith; simp only [k2, k1, ha, Expr.pos, hl]; rfl
/-- {k: v}, the key a number, a text or a tuple; o: the new dict, of no keys yet -/
def tDisp1 (o : HO) (tk tv : TE) : TE := fun σ H Q => ∀ p, H p = none → tk σ (upd H p o) fun x H1 => tv σ H1 fun y H2 => ∃ H3, DPut H2 p x y H3 ∧ Q (.ref p) H3
theorem pe_disp1 {k v : Expr} {tv : TE} (o : HO) (ho : o = .dK [] ∨ o = .dT []) (hu : X.A.units < cLine) (hk : PE X k tk) (hv : PE X v tv) : PE X (.Dict [some k] [v] pos) (tDisp1 o tk tv) := by
  refine ⟨fun pins s σ H Q I q => ?_⟩
  obtain ⟨p, hp⟩ : ∃ p, p = s.heap.objs.size := ⟨_, rfl⟩
  have I1 : Inv X pins σ (upd H p o) { s with heap := s.heap.push { cls := .type "dict", data := .dict #[] } } := by
    refine I.laid (t' := s.toks) (fun b z e => Heap.get?_push_of_some _ e) (Nat.le_of_eq hp.symm) ?_
    rw [hp]
    rcases ho with rfl | rfl
    · exact dk_empty s.heap I.big
    · exact dt_empty s.heap I.big
  let R : List (V × V) → Hp → Prop := fun ps H2 => match ps with
    | [(x, y)] => ∃ H3, DPut H2 p x y H3 ∧ Q (.ref p) H3
    | _ => False
  have h : tPairs [(tk, tv)] σ (upd H p o) R := q p (I.hok.fresh (Nat.le_of_eq hp.symm))
  have run := (pps_cons (pos := pos) hk hv pps_nil).run pins _ σ _ R I1 h
  subst hp
  refine wpAny_Dict_any (by simp) (by simp) (by simp) (by simp) (thn run fun ws s2 hx => ?_)
  obtain ⟨ps, H2, I2, rel, r⟩ := hx
  cases rel with
  | nil => exact False.elim r
  | cons rr t =>
    cases t with
    | cons _ _ => exact False.elim r
    | nil =>
      obtain ⟨H3, put, q3⟩ := r
      unfold storeAll
      rw [List.forIn_cons]
      refine wpAny_bind (wpAny_bind (d_put hu I2 put rr.1 rr.2 fun s3 I3 => wpAny_pure ?_))
      show wpAny _ _ (forIn [] _ _) _ _ _
      rw [List.forIn_nil]
      exact wpAny_pure ⟨.ref s.heap.objs.size, H3, I3, rfl, q3⟩
end
end Xd1
set_option Elab.async false
set_option linter.all false
set_option maxRecDepth 100000
set_option maxHeartbeats 4000000
set_option pp.maxSteps 400
set_option pp.deepTerms false
namespace Xt
open PySem PySem.Spec PyProof.Rows L2
open AutoSeq1 (wpAny_loadPart')
theorem meets_enumerate_newT (l : Addr) (items : Array Value) (n : Nat) (dct : Option Addr) (sl : Array (Option Value)) :
    Meets (Builtin.«enumerate.__new__» ⟨[.type "enumerate", .ref l], []⟩) (fun _ R s => s.heap.get? l = some { cls := .type "tuple", dict := dct, data := .seq items n, slots := sl } ∧
      R (.ok (.ret (.ref (s.heap.push { cls := .type "tuple_iterator", data := .fields #[.ref l, .int 0 0] }).objs.size)))
        { s with heap := (s.heap.push { cls := .type "tuple_iterator", data := .fields #[.ref l, .int 0 0] }).push { cls := .type "enumerate", data := .fields #[.none, .bool false, .ref s.heap.objs.size, rawInt 0, .none, .none] } }) :=
  .of_wp fun prog w A R s h => by
    obtain ⟨hp, g, d, tk, os⟩ := s; obtain ⟨hl, h⟩ := h
    have hsub := sub_enumerate
    have hL : Heap.IsTuple (Shared.heap ⟨hp, g, d, tk, os⟩) l items := ⟨_, hl, rfl, n, rfl⟩
    wp_walk using wpAny_loadPart' hl
    refine wpAny_stack_any fun st => wpAny_pure ?_
    split
    · rename_i c _ _ _ _ _
      cases (c == Value.type "enumerate")
      · wp_walk using wpAny_loadPart' hl, wpAny_pyIter_tuple hL
        exact ⟨_, rfl, h⟩
      · wp_walk using wpAny_loadPart' hl, wpAny_pyIter_tuple hL
        exact ⟨_, rfl, h⟩
    · wp_walk using wpAny_loadPart' hl, wpAny_pyIter_tuple hL
      exact ⟨_, rfl, h⟩
section
variable {prog : Program} {w : World} {A : Around} {E : Value → Shared → Prop} {s : Shared}
theorem call_enumerate_tuple {l : Addr} {items : Array Value} {Q : Value → Shared → Prop} (hL : s.heap.IsTuple l items)
    (h : ∀ h', IsEnum h' (s.heap.objs.size + 1) s.heap.objs.size 0 .none → h'.IsTupleIter s.heap.objs.size l 0 → h'.objs.size = s.heap.objs.size + 2 →
      (∀ b o, s.heap.get? b = some o → h'.get? b = some o) → Q (.ref (s.heap.objs.size + 1)) { s with heap := h' }) :
    wpAny (model prog w) A (call (.type "enumerate") [.ref l]) Q E s := by
  obtain ⟨⟨c, dct, dt, sl⟩, hl, hc, n, hd⟩ := hL
  replace hc : c = .type "tuple" := hc
  replace hd : dt = .seq items n := hd
  subst hc hd
  refine callType_new F.called_enumerate (by decide) (F.typeCall_enumerate_1 _) (F.newCall_enumerate_1 _) (fun obj => F.args_object_init_2 obj _) F.entry_enumerate_new
    (meets_enumerate_newT l items n dct sl) ⟨hl, ?_⟩
  have hz : (s.heap.push { cls := .type "tuple_iterator", data := .fields #[.ref l, .int 0 0] }).objs.size = s.heap.objs.size + 1 := Heap.size_push ..
  show _ ∧ _
  rw [hz]
  have he : IsEnum ((s.heap.push { cls := .type "tuple_iterator", data := .fields #[.ref l, .int 0 0] }).push
      { cls := .type "enumerate", data := .fields #[.none, .bool false, .ref s.heap.objs.size, rawInt 0, .none, .none] }) (s.heap.objs.size + 1) s.heap.objs.size 0 .none := by
    have := Heap.get?_push_size (s.heap.push { cls := .type "tuple_iterator", data := .fields #[.ref l, .int 0 0] })
      (o := { cls := .type "enumerate", data := .fields #[.none, .bool false, .ref s.heap.objs.size, rawInt 0, .none, .none] }) rfl
    rw [hz] at this; exact this
  refine ⟨⟨_, he, rfl⟩, h _ he ⟨_, Heap.get?_push_of_some _ (Heap.get?_push_size _ rfl), rfl, rfl⟩ (by rw [Heap.size_push, hz]) fun b o x => Heap.get?_push_of_some _ (Heap.get?_push_of_some _ x)⟩
end
/-- the tuple at a, each item in a new pair with its number -/
def IteT (K : PySem.W.Frag) (a : Addr) : It :=
  ⟨fun i H => ∃ (xs : List V) (x : V), SqT K H a xs ∧ xs[i]? = some x, fun i H v H' => ∃ T x, v = .ref T ∧ H T = none ∧ H' = upd H T (.tup [.int (i : Nat), x]) ∧ ∀ xs, SqT K H a xs → xs[i]? = some x, fun i H => ∃ xs : List V, SqT K H a xs ∧ xs.length = i⟩
theorem turn_enumT {P : Program} {w : World} {K : PySem.W.Frag} {elts : List Expr} {kk : Nat} {tpos : Pos} (a e it : Addr) (hae : a ≠ e) (hai : a ≠ it) :
    Turn P w K (.Tuple elts kk tpos) (IteT K a) [e, it] e (fun i h => (∃ old, IsEnum h e it ((i : Nat) : Int) old) ∧ h.IsTupleIter it a i ∧ e ≠ it) where
  mem := by simp
  obj := fun i h st b hb => by
    obtain ⟨⟨old, he⟩, ⟨o, ho, hc, hd⟩, _⟩ := st
    have e' : b = e ∨ b = it := by simpa using hb
    rcases e' with z | z
    · rw [z]; exact ⟨_, he, fun v q => nomatch q⟩
    · rw [z]; exact ⟨o, ho, fun v q => by rw [hd] at q; cases q⟩
  keep := fun i h h' st k => let ⟨⟨old, he⟩, hi, hne⟩ := st; ⟨⟨old, k e (by simp) _ he⟩, hi.at fun o q => k it (by simp) o q, hne⟩
  item := by
    intro X hP hw hK hc i pins s σ H E I hf st hg
    subst hP hw hK
    obtain ⟨⟨old, he⟩, hit, hne⟩ := st
    obtain ⟨xs, x, hq, hx⟩ := hg
    obtain ⟨its, rv, p, hz⟩ := I.tuple hq
    obtain ⟨u, hu, ru⟩ := rv.get hx
    have hel : e < s.heap.objs.size := Heap.lt_size he
    have hil : it < s.heap.objs.size := by obtain ⟨_, q, _⟩ := hit; exact Heap.lt_size q
    have hu' : its.toArray[i]? = some u := by simpa using hu
    have hi : i < its.toArray.size := by
      rcases Nat.lt_or_ge i its.toArray.size with h | h
      · exact h
      · rw [Array.getElem?_eq_none h] at hu'; cases hu'
    refine wpAny_pyNext_enum_itemD (Draws.tuple (A := X.A.in1) (I.ok.hd hc) it a hai its.toArray) he ⟨hit, p⟩ hi hne (by simp [Ne.symm hne]; exact ⟨hne, Ne.symm hae⟩) fun y h' tk hy ho hst' hT hsz hk => ?_
    obtain rfl : u = y := by rw [hu'] at hy; cases hy; rfl
    refine ⟨_, rfl, wpAny_letOwnedTupleGo_enum (s := { s with heap := h', toks := tk + 1 }) ho fun h'' he' sb => ?_⟩
    have hT2 : h''.get? s.heap.objs.size = some { cls := .type "tuple", data := .seq #[.int i tk, u] } := (sb.2 _ (Nat.ne_of_gt hel)).trans hT
    have new : ObjOk X.prog X.w (upd H s.heap.objs.size (.tup [.int (i : Nat), x])) h'' s.heap.objs.size (.tup [.int (i : Nat), x]) :=
      ⟨by show 2 ≤ sizeLine; decide, [.int i tk, u], .cons ⟨_, rfl⟩ (.cons ru .nil), ⟨_, hT2, rfl, _, rfl⟩⟩
    have I1 : Inv X pins σ (upd H s.heap.objs.size (.tup [.int (i : Nat), x])) { s with heap := h'', toks := tk + 1 } :=
      I.turnedNew (ch := [e, it]) (fun b ob hb q => (sb.2 b (fun z => hb (by simp [z]))).trans (hk b ob (fun z => hb (by simp [z])) (fun z => hb (by simp [z])) q)) hf (Nat.le_refl _) new
    refine ⟨.ref s.heap.objs.size, _, I1, rfl, ⟨_, x, rfl, I.hok.fresh (Nat.le_refl _), rfl, fun ys hy => by rw [I.tuple_inj hy hq]; exact hx⟩, ⟨⟨u, ?_⟩, hst'.1.at fun o q => (sb.2 it (Ne.symm hne)).trans q, hne⟩, fun b hb => ?_⟩
    · have e1 : ((i + 1 : Nat) : Int) = (i : Int) + 1 := by omega
      rw [e1]; exact he'
    · have hb' : b < s.heap.objs.size := by
        have e' : b = e ∨ b = it := by simpa using hb
        rcases e' with z | z
        · rw [z]; exact hel
        · rw [z]; exact hil
      rw [upd_ne (Nat.ne_of_lt hb')]
      exact (hf b hb).1
  done := by
    intro X hP hw hK hc i pins s σ H E I hf st hg
    subst hP hw hK
    obtain ⟨⟨old, he⟩, hit, hne⟩ := st
    obtain ⟨xs, hq, hx⟩ := hg
    obtain ⟨its, rv, p, hz⟩ := I.tuple hq
    obtain ⟨f0, f1, f2, f3, f4, f5⟩ := hf it (by simp)
    have hl := rv.length
    have en : its.toArray.size = i := by simp; omega
    exact wpAny_pyNext_enum_endD (Draws.tuple (A := X.A.in1) (I.ok.hd hc) it a hai its.toArray) he (by rw [en]; exact ⟨hit, p⟩) fun h' eb => ⟨rfl, I.turned (t' := s.toks) (fun b o hb q => eb b o hb q) f0 f1 f3 f4 f5⟩
  self := fun A i s Q E st h => let ⟨⟨_, he⟩, _⟩ := st; wpAny_pyIter_enum he h
def iEnumT (K : PySem.W.Frag) (ta : TA) : TI := fun σ H R => ta σ H fun vs H1 => ∃ a xs, vs = [.ref a] ∧ SqT K H1 a xs ∧ R (IteT K a) H1
theorem pi_enumT {X : Cx} {e : Expr} {ta : TA} {p pos tpos : Pos} {elts : List Expr} {kk : Nat} (hg : Gl X "enumerate") (hm : X.mg "enumerate" = none) (ha : PA X [e] ta) (hs : starEach [e] X.env = [(false, eval e X.env)] := by rfl) :
    PI X (.Tuple elts kk tpos) (.Call (.Name "enumerate" p) [e] [] pos) (iEnumT X.K ta) := by
  refine ⟨fun pins s σ H R I h => ?_⟩
  refine Call_ (ld_blt I hg hm boot_enumerate (PyProof.Rows.callWith_type1 (thn (ha.run pos pins s σ H _ I h) fun us s1 ⟨vs, H1, I1, r1, q1⟩ => ?_) hs rfl))
  obtain ⟨a, xs, ex, hq, q⟩ := q1
  subst ex
  cases r1 with
  | cons r rr =>
    cases rr
    cases r
    obtain ⟨its, rv, p', hz⟩ := I1.tuple hq
    have hal : a < s1.heap.objs.size := by obtain ⟨_, z, _⟩ := p'; exact Heap.lt_size z
    refine call_enumerate_tuple p' fun h' he hit hsz hk => wpAny_pyIter_enum he ?_
    have I2 : Inv X pins σ H1 { s1 with heap := h' } := I1.kept (t' := s1.toks) hk
    refine ⟨s1.heap.objs.size + 1, [s1.heap.objs.size + 1, s1.heap.objs.size], _, _, H1, rfl, I2, turn_enumT a (s1.heap.objs.size + 1) s1.heap.objs.size (Nat.ne_of_lt (Nat.lt_succ_of_lt hal)) (Nat.ne_of_lt hal), ⟨⟨.none, he⟩, hit, Nat.succ_ne_self _⟩, fun b hb => ?_, q⟩
    have e' : b = s1.heap.objs.size + 1 ∨ b = s1.heap.objs.size := by simpa using hb
    have hle : s1.heap.objs.size ≤ b := by
      rcases e' with z | z
      · rw [z]; exact Nat.le_add_right _ _
      · rw [z]; exact Nat.le_refl _
    exact I1.fpOk hle (I1.hok.fresh hle)
theorem walk_enumT {K : PySem.W.Frag} {a : Addr} {xs : List V} : Walk (IteT K a) xs.length (fun H => SqT K H a xs) (YPair (fun i => some (.int (i : Nat))) (fun i => xs[i]?)) := by
  refine ⟨fun i _ hi q => ⟨xs, xs[i], q, by simp [hi]⟩, fun _ q => ⟨xs, q, rfl⟩, fun i H v H' _ q y => ?_⟩
  obtain ⟨T, x, h1, h2, h3, h4⟩ := y
  exact ⟨T, .int (i : Nat), x, h1, h2, h3, rfl, h4 xs q⟩
end Xt
set_option Elab.async false
set_option linter.all false
set_option maxRecDepth 100000
set_option maxHeartbeats 4000000
set_option pp.maxSteps 400
set_option pp.deepTerms false
namespace Xt
open PySem PySem.Spec PyProof.Rows L2 Az PySem.W
/-- *e ahead of other items, e a tuple -/
def tStar (K : PySem.W.Frag) (ta : TE) (tr : TA) : TA := fun σ H Q => ta σ H fun x H1 => ∃ a xs, x = .ref a ∧ SqT K H1 a xs ∧ tr σ H1 fun ys H2 => Q (xs ++ ys) H2
theorem pa_star {X : Cx} {e : Expr} {es : List Expr} {te : TE} {t : TA} {p : Pos} (ha : PE X e te) (hr : PA X es t) : PA X (.Starred e p :: es) (tStar X.K te t) := by
  refine ⟨fun pos pins s σ H Q I h => ?_⟩
  refine items_star (thn (ha.run pins s σ H _ I h) fun u s1 ⟨x, H1, I1, r1, a, xs, ex, hq, q⟩ => ?_)
  subst ex
  obtain rfl : u = Value.ref a := r1
  refine star_tup I1 hq fun us s2 I2 rv => ?_
  exact thn (hr.run pos pins s2 σ H1 _ I2 q) fun ws s3 ⟨ys, H2, I3, r2, q2⟩ => ⟨xs ++ ys, H2, I3, rv.append r2, q2⟩
section
variable {prog : Program} {w : World} {A : Around} {E : Value → Shared → Prop} {s : Shared}
/-- min(a, b), compared where a heap stands -/
theorem call_min_twoH {a b : Value} {Q : Value → Shared → Prop}
    (h : wpAny (model prog w) A.in1 (pyIter (.ref s.heap.objs.size)) (fun it s₂ => ∃ I fp wr G n P St H bt, it = .ref I ∧ WalksS prog w A.in1 I fp wr G n P St ∧ St 0 s₂ ∧ (∀ b ∈ fp, b < s₂.heap.objs.size) ∧ 0 < n ∧
      (∀ b o, H.get? b = some o → b ∉ wr) ∧ (∀ b o, H.get? b = some o → s₂.heap.get? b = some o) ∧ CmpIn prog w A.in1 .Lt H P bt ∧ ∀ v s', P (argBest bt (n - 1)) v → Moved wr G s₂ s' → Q v s') E
      { s with heap := s.heap.push { cls := .type "tuple", data := .seq #[a, b] } }) :
    wpAny (model prog w) A (call (.builtin "min") [a, b]) Q E s := by
  have hname : (toString "min" ++ toString ".loop" : String) = "min.loop" := by decide
  refine call_function_tree F.kind_min F.plain_min F.entry_min (F.args_min2 _ _) ?_
  show wpAny _ A.in1 (Builtin.Builtins.bindParams "min" ["key", "default"] 0 ⟨[], []⟩ >>= _) _ _ s
  refine wpAny_bind (wpAny_of_eq (show Builtin.Builtins.bindParams "min" ["key", "default"] 0 ⟨[], []⟩ = pure [none, none] from rfl) ?_)
  show wpAny _ A.in1 (newTuple [a, b] >>= _) _ _ s
  refine wpAny_bind (wpAny_newObj_type ?_)
  refine wpAny_bind (wpAny_mono h (fun it s₂ h₂ => ?_) fun _ _ e => e)
  obtain ⟨I, fp, wr, G, n, P, St, H, bt, rfl, W, hst, hfp, hn, hw, hkeep, hcmp, hQ⟩ := h₂
  refine wpAny_bind (wpAny_newObj_type ?_)
  have hSf : s₂.heap.objs.size ∉ fp := fun hm => Nat.lt_irrefl _ (hfp _ hm)
  rw [hname]
  refine wpAny_pure ⟨plainId_quiet F.plain_min_loop _, codeAny_min_loop_firstH W H hw bt hcmp s₂.heap.objs.size hSf (fresh_in hkeep) _ hn (fun b o e => Heap.get?_push_of_some _ (hkeep b o e)) (W.frame 0 s₂ _ s₂.toks hst (Nat.le_refl _) fun b _ o e => Heap.get?_push_of_some _ e) (Heap.get?_push_size _ rfl) fun v s' hP hm => ?_⟩
  exact hQ v s' hP (Moved.drop_new (tk := s₂.toks) hm (Nat.le_refl _))
theorem min_two_data {a b : Value} {da db : PyData} {as bs : List Addr} {Q : Value → Shared → Prop} (hh : A.handled = none) (ra : Reads s.heap a da as) (rb : Reads s.heap b db bs) (ha : AlikeAll [da, db]) (hu : A.units + 1 + PyData.depthAll [da, db] < cLine)
    (h : ∀ h' tk, (∀ c o, s.heap.get? c = some o → h'.get? c = some o) → Q (if dataLt db da = true then b else a) { s with heap := h', toks := tk }) :
    wpAny (model prog w) A (call (.builtin "min") [a, b]) Q E s := by
  have hT : (s.heap.push { cls := .type "tuple", data := .seq #[a, b] }).IsTuple s.heap.objs.size #[a, b] := ⟨_, Heap.get?_push_size _ rfl, rfl, 0, rfl⟩
  have hr : ReadsAll s.heap (#[a, b] : Array Value).toList [da, db] (as ++ (bs ++ [])) := .cons ra (.cons rb .nil)
  have k0 : ∀ c o, s.heap.get? c = some o → (s.heap.push { cls := .type "tuple", data := .seq #[a, b] }).get? c = some o := fun c o e => Heap.get?_push_of_some _ e
  refine call_min_twoH (iter_tupleW (A := A.in1) (s := { s with heap := s.heap.push { cls := .type "tuple", data := .seq #[a, b] } }) hh hT fun s₂ e W st hfp hw hk => ?_)
  refine ⟨_, _, _, _, _, _, _, s.heap, _, rfl, W, st, hfp, (by simp), fun b o q => hw b o (k0 b o q), fun b o q => hk b o (k0 b o q), cmpIn_lt (A := A.in1) hr ha (by show A.units + 1 + _ < _; exact hu), fun v s' hP m => ?_⟩
  obtain ⟨h', tk, rfl, hk'⟩ := moved_old e rfl m
  have := h h' tk fun c o q => hk' c o (k0 c o q)
  have ev : v = if dataLt db da = true then b else a := by
    replace hP : (#[a, b] : Array Value)[argBest (fun i j => dataLt ([da, db].getD i .none) ([da, db].getD j .none)) 1]? = some v := hP
    cases c : dataLt db da with
    | true =>
      have e1 : argBest (fun i j => dataLt ([da, db].getD i .none) ([da, db].getD j .none)) 1 = 1 := by simp [argBest, c]
      rw [e1] at hP
      rw [if_pos rfl]
      exact (Option.some.inj hP).symm
    | false =>
      have e1 : argBest (fun i j => dataLt ([da, db].getD i .none) ([da, db].getD j .none)) 1 = 0 := by simp [argBest, c]
      rw [e1] at hP
      rw [if_neg Bool.false_ne_true]
      exact (Option.some.inj hP).symm
  rw [ev]
  exact this
end
/-- min(a, b) of two things that can be compared -/
def rMin2Z (K : PySem.W.Frag) : List V → Hp → VK → Prop := fun vs H Q => ∃ (a b : V) (da db : PyData), vs = [a, b] ∧ Dz K H a da ∧ Dz K H b db ∧ AlikeAll [da, db] ∧ PyData.depthAll [da, db] ≤ 50 ∧ Q (if dataLt db da = true then b else a) H
theorem cr_min2Z {X : Cx} {k : Nat} (hc : X.calm = true) (room : Room k X.A) : CallR X (.builtin "min") (rMin2Z X.K) := by
  intro pins s σ H vs us Q I r h
  obtain ⟨a, b, da, db, rfl, hda, hdb, al, dp, q⟩ := h
  cases r with
  | cons r1 rr =>
    cases rr with
    | cons r2 rr =>
      cases rr
      obtain ⟨as, ra, _⟩ := Dz.reads I _ _ _ hda r1
      obtain ⟨bs, rb, _⟩ := Dz.reads I _ _ _ hdb r2
      refine min_two_data (I.ok.hd hc) ra rb al (by have := room.units; omega) fun h' tk kk => ?_
      cases c : dataLt db da with
      | true => rw [c, if_pos rfl] at q; exact ⟨_, H, I.kept kk, r2, q⟩
      | false => rw [c, if_neg Bool.false_ne_true] at q; exact ⟨_, H, I.kept kk, r1, q⟩
/-- pairs of a number and a row of numbers -/
def pairD (p : Int × List Int) : PyData := .tuple [.int p.1, .tuple (p.2.map .int)]
def pairLt (p q : Int × List Int) : Bool := decide (p.1 < q.1 ∨ (p.1 = q.1 ∧ p.2 < q.2))
theorem alike_ints : ∀ xs ys : List Int, alikeAll (xs.map .int) (ys.map .int) = true
  | [], _ => by simp [alikeAll]
  | _ :: _, [] => by simp [alikeAll]
  | x :: xs, y :: ys => by simp [alikeAll, alike, alike_ints xs ys]
theorem alike_pairs (p q : Int × List Int) : AlikeAll [pairD p, pairD q] := by
  have al : ∀ p q : Int × List Int, alike (pairD p) (pairD q) = true := fun p q => by simp [pairD, alike, alikeAll, alike_ints]
  constructor
  · intro x hx y hy
    simp only [List.mem_cons, List.not_mem_nil, or_false] at hx hy
    rcases hx with rfl | rfl <;> rcases hy with rfl | rfl <;> exact al _ _
  · intro x hx
    simp only [List.mem_cons, List.not_mem_nil, or_false] at hx
    rcases hx with rfl | rfl <;> simp [pairD]
theorem eqv_ints : ∀ xs ys : List Int, PyData.eqvAll (xs.map .int) (ys.map .int) = decide (xs = ys)
  | [], [] => by simp [PyData.eqvAll]
  | [], _ :: _ => by simp [PyData.eqvAll]
  | _ :: _, [] => by simp [PyData.eqvAll]
  | x :: xs, y :: ys => by
    rw [List.map_cons, List.map_cons, PyData.eqvAll, eqv_ints xs ys]
    by_cases h1 : x = y <;> by_cases h2 : xs = ys <;> simp [PyData.eqv, h1, h2]
theorem lt_pairs (p q : Int × List Int) : dataLt (pairD p) (pairD q) = pairLt p q := by
  obtain ⟨a, xs⟩ := p
  obtain ⟨b, ys⟩ := q
  unfold pairD pairLt
  rw [dataLt_pair (by simp [alike]) (by simp [alike, alike_ints]), dataLt_int, dataLt_tuple]
  have e := dataLt_ints xs ys
  unfold rowLt at e
  rw [e]
  simp only [PyData.eqv, eqv_ints]
  by_cases h1 : a = b
  · subst h1
    by_cases h2 : xs = ys
    · subst h2
      simp [List.lt_irrefl]
    · simp [h2]
  · simp [h1]
theorem depth_ints : ∀ xs : List Int, PyData.depthAll (xs.map .int) = 0
  | [] => rfl
  | x :: xs => by
    rw [List.map_cons, PyData.depthAll, depth_ints xs]
    simp [PyData.depth]
theorem depth_pairs (p q : Int × List Int) : PyData.depthAll [pairD p, pairD q] ≤ 50 := by
  simp [pairD, PyData.depthAll, PyData.depth, depth_ints]
end Xt
set_option Elab.async false
set_option linter.all false
set_option maxRecDepth 100000
set_option maxHeartbeats 4000000
set_option pp.maxSteps 400
set_option pp.deepTerms false
/-! min(xs, key=lambda p: ..) in a def: the lambda is made anew each time, its code object once -/
namespace Xln
open PySem PySem.Spec PyProof.Rows L2 Az PySem.W LamX
/-- the names of a lambda of one parameter: the parameter, captured ones, globals -/
structure Lam1 (sc scope : Scope) (p : Str) : Prop where
  kind : scope.kind = .function
  co : scope.isCoroutine = false
  gen : scope.isGenerator = false
  par : scope.names.lookup p = some .local
  own : ∀ y ∈ scope.names, y.2 ≠ .cell ∧ (y.2 = .local → y.1 = p)
  free : ∀ y ∈ scope.names, y.2 = .free → sc.names.lookup y.1 = some .cell ∨ sc.names.lookup y.1 = some .free
/-- where the lambda's body stands -/
def lamX (X : Cx) (A : Around) (s : Shared) (H : Hp) (p : Str) (scope : Scope) (f c : Addr) : Cx :=
  { lamCx X A X.stack s H (fun _ _ _ => False) scope f c with N := p :: X.N, xe := fun _ _ => False }
section
variable {X : Cx} {pins : List (Addr × Obj)} {σ : L2.St} {H : Hp} {s : Shared}
theorem Lam1.has {scope : Scope} {p : Str} (L : Lam1 X.env.scope scope p) (ok : X.Ok) : ∀ y ∈ scope.names, y.2 = .free → ∃ c, X.env.cells.lookup y.1 = some c := fun y hy e =>
  (L.free y hy e).elim (fun k => ok.has _ (.inl k)) fun k => ok.has _ (.inr k)
theorem lam_in {A : Around} {scope : Scope} {f c : Addr} {p : Str} {v : V} {u : Value} {h₁ : Heap} {tk : Nat} (I : Inv X pins σ H s) (L : Lam1 X.env.scope scope p) (hp : p ∉ X.N) (fr : A.frames = some X.stack) (hd : A.handled = none) (rv : RelV v u)
    (hns : h₁.Ns s.heap.objs.size fun y => ([(p, u)] : List (Str × Value)).reverse.lookup y) (kp : ∀ b o, s.heap.get? b = some o → h₁.get? b = some o) :
    Inv (lamX X A s H p scope f c) [] (some v :: σ) H { s with heap := h₁, toks := tk } := by
  have z := I.env0
  have old : ∀ {y : Str} {a : Addr}, (cloFrom X.env.cells scope.names []).lookup y = some a → X.env.cells.lookup y = some a := fun {y a} e => by
    rcases cloFrom_mem (PySem.mem_of_lookup e) with q | ⟨q1, q2⟩
    · exact absurd q List.not_mem_nil
    · obtain ⟨a', e'⟩ := L.has I.ok _ q1 rfl
      replace e' : X.env.cells.lookup y = some a' := e'
      rw [e'] at q2 ⊢
      rw [q2]; rfl
  have look : ∀ {y : Str}, scope.names.lookup y = some .free → ∃ a, (cloFrom X.env.cells scope.names []).lookup y = some a := fun {y} e =>
    mem_lookup (cloFrom_has (cells := X.env.cells) (acc := []) (PySem.mem_of_lookup e))
  have nx : ∀ b : Addr, b ∉ (lamX X A s H p scope f c).ex := fun b y => absurd (show b ∈ ([] : List Addr) from y) List.not_mem_nil
  refine ⟨⟨z.mod, L.kind, rfl, rfl, Nat.le_refl _, fun y y' a e e' => I.ok.inj y y' a (old e) (old e'), fun y k => ?_, fun y a k _ => ?_, fun _ => hd, Around.frames_deeper fr, .inr ⟨rfl, rfl⟩, fun b y => absurd y (nx b), z.bs, z.bsz, fun b _ _ => nx b, fun b y => absurd y (nx b), z.funs, z.frf⟩,
    rfl, z.bare, Un.kept kp, ⟨_, hns, fun i y w e1 e2 e3 => ?_⟩, fun y a e => ?_, z.hok.fresh (Nat.le_refl _), fun y a e => I.freeC y a (old e), fun q hq => absurd (show q ∈ ([] : List (Addr × Obj)) from hq) List.not_mem_nil, z.hok.kept kp, congrArg Nat.succ I.len⟩
  · replace k : scope.names.lookup y = some .cell ∨ scope.names.lookup y = some .free := k
    rcases k with k | k
    · exact absurd rfl (L.own _ (PySem.mem_of_lookup k)).1
    · exact look k
  · exact absurd (show false = true from k) Bool.false_ne_true
  · cases i with
    | zero =>
      replace e1 : some p = some y := e1
      cases e1
      cases e2
      exact ⟨u, rv, .inl ⟨L.par, by simp⟩⟩
    | succ i =>
      replace e1 : X.N[i]? = some y := e1
      replace e2 : σ[i]? = some (some w) := e2
      have n : y ≠ p := fun q => hp (q ▸ List.mem_of_getElem? e1)
      replace e3 : Vis scope y := e3
      rcases e3 with k | k | k
      · exact absurd ((L.own _ (PySem.mem_of_lookup k)).2 rfl) n
      · exact absurd rfl (L.own _ (PySem.mem_of_lookup k)).1
      · obtain ⟨m, _, hl⟩ := I.loc
        have kf := L.free _ (PySem.mem_of_lookup k) rfl
        obtain ⟨u', r', q⟩ := hl i y w e1 e2 (kf.elim (fun k => .inr (.inl k)) fun k => .inr (.inr k))
        obtain ⟨a, ha⟩ := look k
        refine ⟨u', r', .inr ⟨.inr k, a, ha, ?_⟩⟩
        rcases q with ⟨k', _⟩ | ⟨_, a', e', o, ho, hd'⟩
        · replace k' : X.env.scope.names.lookup y = some .local := k'
          rcases kf with k2 | k2 <;> rw [show X.env.scope.names.lookup y = _ from k2] at k' <;> cases k'
        · have e2 := old ha
          rw [e'] at e2
          cases e2
          exact ⟨o, kp _ _ ho, hd'⟩
  · obtain ⟨w, o, ho, hd'⟩ := I.cell y a (old e)
    exact ⟨w, o, kp _ _ ho, hd'⟩
/-- the lambda called -/
theorem lam_call {A : Around} {params : Arguments} {body : Expr} {scope : Scope} {f c : Addr} {pm ctv : Value} {p : Str} {v : V} {u : Value} {k : Nat} {tb : TE} {Q : VK} {E : Value → Shared → Prop} (I : Inv X pins σ H s) (L : Lam1 X.env.scope scope p) (hp : p ∉ X.N)
    (hf : s.heap.get? f = some (kla_obj "<lambda>" (X.env.qual ++ "<lambda>") params body scope (cloFrom X.env.cells scope.names []) pm c ctv)) (hc : H c = some (CodeO c (X.env.qual ++ "<lambda>")))
    (bind : bindArgs (kla_fn "<lambda>" (X.env.qual ++ "<lambda>") params body scope (cloFrom X.env.cells scope.names []) pm (.ref c) ctv) ⟨[u], []⟩ = pure [(p, u)])
    (fr : A.frames = some X.stack) (room : Room (k + 1) A) (hb : Room k (A.deeper (lamEnv X scope s.heap.objs.size f c)) → PE (lamX X A s H p scope f c) body tb) (rv : RelV v u) (h : tb (some v :: σ) H Q) :
    wpAny (model X.prog X.w) A (call (.ref f) [u]) (fun y s' => CE X.stack X.prog X.w H s Q y s') E s := by
  obtain ⟨⟨oc, vs, t, hoc, hdc, hvc⟩, _, _⟩ := I.hok c _ hc
  refine wpAny_call (codeAny_mono (R := fun r s' => ∃ y, r = .ok (.ret y) ∧ CE X.stack X.prog X.w H s Q y s') (kla_callFunE room.depth hf rfl L.co L.gen rfl ⟨c, oc, vs, t, rfl, hoc, hdc, hvc⟩ ?_) fun r s' ⟨y, e, q⟩ => by subst e; exact q)
  rw [bind]
  refine wpAny_pure (wpAny_newFunctionEnv (fun y hy => (L.own y hy).1) (fun y hy => by rw [List.mem_singleton.mp hy]; exact L.par) (fun h₁ hns hsb => ⟨I.nolimit.fresh _ hsb, ?_⟩) L.kind)
  show codeAny _ _ (.expr body (lamEnv X scope s.heap.objs.size f c)) _ _
  have kp : ∀ b o, s.heap.get? b = some o → h₁.get? b = some o := fun b o e => hsb.extBut b o (Nat.ne_of_lt (Heap.lt_size e)) (Heap.get?_push_of_some _ e)
  have J := lam_in (A := A) (f := f) (c := c) (tk := s.toks + ([(p, u)] : List (Str × Value)).length) I L hp fr room.hd rv hns kp
  refine kla_codeExpr (wpAny_mono ((hb (room.deeper _)).run [] _ _ H Q J h) (fun y s' hq => ?_) fun _ _ q => False.elim q)
  obtain ⟨x, H', J', r, q⟩ := hq
  exact ⟨y, rfl, x, H', J'.os, J'.bare, J'.base, J'.hok, r, q⟩
end
/-! ## the walk of min -/
section
variable (X : Cx) (pins : List (Addr × Obj)) (σ : L2.St) (T : List (Addr × Str)) (H1 : Hp) (S It f c : Addr) (fo : Obj) (q : Str)
structure Jm (H : Hp) (s : Shared) : Prop where
  inv : Inv X pins σ H s
  ext : ExtN H1 H
  tab : Tabs T H
  fS : FpOk X pins H S
  fI : FpOk X pins H It
  fn : s.heap.get? f = some fo
  nf : H f = none
  cd : H c = some (CodeO c q)
  eS : ∃ o, s.heap.get? S = some o
  eI : ∃ o, s.heap.get? It = some o
end
section
variable {X : Cx} {pins : List (Addr × Obj)} {σ : L2.St} {T : List (Addr × Str)} {H1 : Hp} {S It f c : Addr} {fo : Obj} {q : Str}
theorem Jm.still {H : Hp} {s s' : Shared} (j : Jm X pins σ T H1 S It f c fo q H s) (m : Moved [S, It] (fun a b => b = a) s s') : Inv X pins σ H s' := by
  obtain ⟨h', g', d', t', o'⟩ := s'
  obtain rfl : g' = s.gens := m.gens
  obtain rfl : d' = s.drawn := m.drawn
  obtain rfl : o' = s.os := m.os
  refine Inv.turnedL (ch := [S, It]) j.inv (fun b o hb e => m.heap b o hb e) fun b hb => ?_
  rcases List.mem_cons.mp hb with e | e
  · rw [e]; exact j.fS
  · rw [List.mem_singleton.mp e]; exact j.fI
theorem Jm.moved {H : Hp} {s s' : Shared} (j : Jm X pins σ T H1 S It f c fo q H s) (hS : f ≠ S) (hI : f ≠ It) (m : Moved [S, It] (fun a b => b = a) s s') (eS : ∃ o, s'.heap.get? S = some o) (eI : ∃ o, s'.heap.get? It = some o) : Jm X pins σ T H1 S It f c fo q H s' := by
  refine ⟨j.still m, j.ext, j.tab, j.fS, j.fI, m.heap _ _ (fun z => ?_) j.fn, j.nf, j.cd, eS, eI⟩
  rcases List.mem_cons.mp z with e | e
  · exact hS e
  · exact hI (List.mem_singleton.mp e)
theorem moved_upd (s : Shared) (S It : Addr) (g : Obj → Obj) : Moved [S, It] (fun a b => b = a) s { s with heap := s.heap.update S g, toks := s.toks } :=
  ⟨fun b o hb e => (Heap.get?_update_other _ _ (fun z : S = b => hb (by rw [← z]; exact List.mem_cons_self))).trans e, rfl, rfl, rfl, Nat.le_refl _⟩
variable {Ky : Hp → V → PyData → Prop} {kd : V → PyData} {xs : List V} {A : Around} {n : Nat} {Pv : Nat → Value → Prop} {St : Nat → Shared → Prop} {fp : List Addr}
/-- what is asked of the key -/
structure KeyL (X : Cx) (pins : List (Addr × Obj)) (σ : L2.St) (T : List (Addr × Str)) (H1 : Hp) (S It f c : Addr) (fo : Obj) (q : Str) (Ky : Hp → V → PyData → Prop) (kd : V → PyData) (xs : List V) (A : Around) : Prop where
  turn : ∀ (H : Hp) (s : Shared) (v : V) (u : Value) (E : Value → Shared → Prop), Jm X pins σ T H1 S It f c fo q H s → v ∈ xs → RelV v u →
    wpAny (model X.prog X.w) A (call (.ref f) [u]) (fun k s' => ∃ y H', Jm X pins σ T H1 S It f c fo q H' s' ∧ RelV y k ∧ Ky H' y (kd v) ∧ (∀ b zs, H b = some (.tup zs) → H' b = some (.tup zs)) ∧
      (∀ b o, FpOk X pins H b → s.heap.get? b = some o → s'.heap.get? b = some o)) E s
  dz : ∀ H y d, Ky H y d → Dz X.K H y d
  keep : ∀ H H' y d, (∀ b zs, H b = some (.tup zs) → H' b = some (.tup zs)) → Ky H y d → Ky H' y d
  alike : ∀ v ∈ xs, ∀ v' ∈ xs, alike (kd v) (kd v') = true
  some : ∀ v ∈ xs, kd v ≠ .none ∧ (kd v).depth ≤ 50
  units : A.units + 60 < cLine
  irr : ∀ v ∈ xs, dataLt (kd v) (kd v) = false
  tr : ∀ u ∈ xs, ∀ v ∈ xs, ∀ z ∈ xs, dataLt (kd u) (kd v) = true → dataLt (kd v) (kd z) = true → dataLt (kd u) (kd z) = true
theorem KeyL.less {A : Around} (K : KeyL X pins σ T H1 S It f c fo q Ky kd xs A) {H : Hp} {s : Shared} {v v' : V} {y y' : V} {k k' : Value} {E : Value → Shared → Prop} {Q : Value → Shared → Prop} (j : Jm X pins σ T H1 S It f c fo q H s) (hv : v ∈ xs) (hv' : v' ∈ xs)
    (r : RelV y k) (r' : RelV y' k') (d : Ky H y (kd v)) (d' : Ky H y' (kd v')) (h : Q (.bool (dataLt (kd v) (kd v'))) s) : wpAny (model X.prog X.w) A (richCompare .Lt k k') Q E s := by
  obtain ⟨as, ra, _⟩ := Dz.reads j.inv _ _ _ (K.dz _ _ _ d) r
  obtain ⟨bs, rb, _⟩ := Dz.reads j.inv _ _ _ (K.dz _ _ _ d') r'
  refine rcLt_alike _ _ A s k k' as bs ra rb (K.alike v hv v' hv') (K.some v hv).1 ?_ X.prog X.w E Q h
  have := K.units
  have := (K.some v hv).2
  omega
variable {R : Result → Shared → Prop} {kw : List (Str × Value)}
theorem min_more (W : WalksS X.prog X.w A.in1 It fp [It] (fun a b => b = a) n Pv St) (hSf : S ∉ fp) (nfS : f ≠ S) (nfI : f ≠ It) (K : KeyL X pins σ T H1 S It f c fo q Ky kd xs A.in1) (hPv : ∀ i v, Pv i v → ∃ x, xs[i]? = some x ∧ RelV x v) (hnx : n = xs.length)
    (hSt : ∀ i s s', St i s → (∀ b o, b ∈ fp → s.heap.get? b = some o → s'.heap.get? b = some o) → St i s') (hfp : ∀ (H : Hp) (s : Shared) (i : Nat), Jm X pins σ T H1 S It f c fo q H s → St i s → ∀ (s' : Shared) (H' : Hp), Jm X pins σ T H1 S It f c fo q H' s' → (∀ b o, FpOk X pins H b → s.heap.get? b = some o → s'.heap.get? b = some o) → St i s')
    (hIt : ∀ i s, St i s → ∃ o, s.heap.get? It = some o) (hR : ∀ x v s' H', x ∈ xs → (∀ x' ∈ xs, dataLt (kd x') (kd x) = false) → RelV x v → Inv X pins σ H' s' → ExtN H1 H' → Tabs T H' → R (.ok (.ret v)) s') :
    ∀ (m j : Nat) (s : Shared) (H : Hp) (vb kb : Value) (e : Nat) (xb yb : V), n - (j + 1) = m → j + 1 ≤ n → Jm X pins σ T H1 S It f c fo q H s → St (j + 1) s → xb ∈ xs → (∀ i' x', i' ≤ j → xs[i']? = some x' → dataLt (kd x') (kd xb) = false) → RelV xb vb → RelV yb kb → Ky H yb (kd xb) →
      s.heap.get? S = some { cls := .type "list", dict := none, data := .seq #[vb, kb] e, slots := #[] } → codeAny (model X.prog X.w) A (.builtin "min.loop" ⟨[.ref It, .ref f, .ref S], kw⟩) R s := by
  have nS : S ∉ [It] := fun z => hSf (W.sub _ z)
  have sub : ∀ b ∈ [It], b ∈ [S, It] := fun b hb => List.mem_cons_of_mem _ hb
  have nm : (toString "min" ++ toString ".loop" : String) = "min.loop" := by decide
  have other : ∀ {b : Addr}, b ∉ [S, It] → S ≠ b := fun {b} hb z => hb (z ▸ List.mem_cons_self)
  intro m
  induction m with
  | zero =>
    intro j s H vb kb e xb yb hm hj J st hx mb rb ry ky hS
    have last : j + 1 = n := by omega
    refine codeAny_builtin F.entry_min_loop ?go
    case go =>
      rw [Around.under_plainId F.plain_min_loop _]
      show wpAny _ A.in1 (seqItems? (.ref S) >>= _) _ _ s
      refine wpAny_bind (wpAny_seqItems hS rfl ?_); show wpAny _ A.in1 (tryCatch (pyNext (.ref It)) _ >>= _) _ _ s
      refine wpAny_bind (wpAny_tryCatch (W.done s _ _ (last ▸ st) fun s' hm' => ?_))
      have hS' := hm'.heap S _ nS hS
      show wpAny _ A.in1 (updateSeq S (fun _ => #[]) >>= _) _ _ _
      refine wpAny_bind ?_
      refine wpAny_updateSeq hS' rfl (wpAny_bind (wpAny_letGo (wpAny_pure ?_)))
      exact hR xb vb _ H hx (fun x' hx' => by
        obtain ⟨i', hi', ei'⟩ := List.getElem_of_mem hx'
        exact mb i' x' (by omega) (by rw [List.getElem?_eq_getElem hi', ei'])) rb (J.still ((hm'.mono sub).then_heap (tk := s'.toks) (Nat.le_refl _) fun b o hb e => (Heap.get?_update_other _ _ (other hb)).trans e)) J.ext J.tab
  | succ m ih =>
    intro j s H vb kb e xb yb hm hj J st hx mb rb ry ky hS
    have lt : j + 1 < n := by omega
    refine codeAny_builtin F.entry_min_loop ?go
    case go =>
      rw [Around.under_plainId F.plain_min_loop _]
      show wpAny _ A.in1 (seqItems? (.ref S) >>= _) _ _ s
      refine wpAny_bind (wpAny_seqItems hS rfl ?_); show wpAny _ A.in1 (tryCatch (pyNext (.ref It)) _ >>= _) _ _ s
      refine wpAny_bind (wpAny_tryCatch (W.item (j + 1) s _ _ lt st fun v s' hP st' hm' => ?_))
      have hS' := hm'.heap S _ nS hS
      have J' := J.moved nfS nfI (hm'.mono sub) ⟨_, hS'⟩ (hIt _ _ st')
      obtain ⟨x, ex', rx⟩ := hPv _ _ hP
      have hx' := List.mem_of_getElem? ex'
      show wpAny _ A.in1 (tryCatch (holding [v] (call (.ref f) [v])) _ >>= _) _ _ _
      refine wpAny_bind (wpAny_tryCatch (wpAny_holding (wpAny_mono (K.turn H s' x v _ J' hx' rx) (fun kx s2 hk => ?_) fun _ _ y => y)))
      obtain ⟨y, H2, J2, r2, k2, tups, fps⟩ := hk
      have hS2 := fps S _ J'.fS hS'
      have st2 := hfp H s' _ J' st' s2 H2 J2 fps
      show wpAny _ A.in1 (tryCatch (holding [v, kx] (richCompare .Lt kx kb >>= _)) _ >>= _) _ _ _
      refine wpAny_bind (wpAny_tryCatch (wpAny_holding (wpAny_bind (K.less J2 hx' hx r2 ry k2 (K.keep _ _ _ _ tups ky) ?_))))
      refine wpAny_bind (wpAny_holding (wpAny_truthy_bool ?_)); refine wpAny_bind (wpAny_letGo (wpAny_pure ?_))
      cases b : dataLt (kd x) (kd xb) with
      | true =>
        simp only [if_true]
        refine wpAny_bind ?_
        refine wpAny_updateSeq hS2 rfl (wpAny_bind (wpAny_letGo ?_)); rw [nm]
        refine wpAny_pure ⟨plainId_quiet F.plain_min_loop _, ih (j + 1) _ H2 v kx _ x y (by omega) lt (J2.moved nfS nfI (moved_upd s2 S It _) ⟨_, Heap.get?_update_self _ hS2 rfl⟩ (by obtain ⟨o, e⟩ := J2.eI; exact ⟨o, (Heap.get?_update_other _ _ (fun z : S = It => nS (by rw [z]; exact List.mem_singleton.mpr rfl))).trans e⟩)) (hSt _ _ _ st2 fun b o hb e => ?_) hx' (fun i' x' hi' e' => by
          rcases Nat.lt_or_ge i' (j + 1) with c | c
          · cases z : dataLt (kd x') (kd x) with
            | false => rfl
            | true =>
              have := K.tr x' (List.mem_of_getElem? e') x hx' xb hx z b
              rw [mb i' x' (by omega) e'] at this
              cases this
          · obtain rfl : i' = j + 1 := by omega
            rw [ex'] at e'
            cases e'
            exact K.irr x hx') rx r2 k2 (Heap.get?_update_self _ hS2 rfl)⟩
        exact (Heap.get?_update_other _ _ (fun z : S = b => hSf (z ▸ hb))).trans e
      | false =>
        simp only [Bool.false_eq_true, if_false]
        refine wpAny_bind (wpAny_letGo ?_); rw [nm]
        exact wpAny_pure ⟨plainId_quiet F.plain_min_loop _, ih (j + 1) _ H2 vb kb e xb yb (by omega) lt J2 st2 hx (fun i' x' hi' e' => by
          rcases Nat.lt_or_ge i' (j + 1) with c | c
          · exact mb i' x' (by omega) e'
          · obtain rfl : i' = j + 1 := by omega
            rw [ex'] at e'
            cases e'
            exact b) rb ry (K.keep _ _ _ _ tups ky) hS2⟩
theorem min_first (W : WalksS X.prog X.w A.in1 It fp [It] (fun a b => b = a) n Pv St) (hSf : S ∉ fp) (nfS : f ≠ S) (nfI : f ≠ It) (K : KeyL X pins σ T H1 S It f c fo q Ky kd xs A.in1) (hPv : ∀ i v, Pv i v → ∃ x, xs[i]? = some x ∧ RelV x v) (hnx : n = xs.length)
    (hSt : ∀ i s s', St i s → (∀ b o, b ∈ fp → s.heap.get? b = some o → s'.heap.get? b = some o) → St i s') (hfp : ∀ (H : Hp) (s : Shared) (i : Nat), Jm X pins σ T H1 S It f c fo q H s → St i s → ∀ (s' : Shared) (H' : Hp), Jm X pins σ T H1 S It f c fo q H' s' → (∀ b o, FpOk X pins H b → s.heap.get? b = some o → s'.heap.get? b = some o) → St i s')
    (hIt : ∀ i s, St i s → ∃ o, s.heap.get? It = some o) (hR : ∀ x v s' H', x ∈ xs → (∀ x' ∈ xs, dataLt (kd x') (kd x) = false) → RelV x v → Inv X pins σ H' s' → ExtN H1 H' → Tabs T H' → R (.ok (.ret v)) s') (hn : 0 < n) {s : Shared} {H : Hp} {e : Nat} (J : Jm X pins σ T H1 S It f c fo q H s) (st : St 0 s)
    (hS : s.heap.get? S = some { cls := .type "list", dict := none, data := .seq #[] e, slots := #[] }) : codeAny (model X.prog X.w) A (.builtin "min.loop" ⟨[.ref It, .ref f, .ref S], kw⟩) R s := by
  have nS : S ∉ [It] := fun z => hSf (W.sub _ z)
  have sub : ∀ b ∈ [It], b ∈ [S, It] := fun b hb => List.mem_cons_of_mem _ hb
  have nm : (toString "min" ++ toString ".loop" : String) = "min.loop" := by decide
  refine codeAny_builtin F.entry_min_loop ?go
  case go =>
    rw [Around.under_plainId F.plain_min_loop _]
    show wpAny _ A.in1 (seqItems? (.ref S) >>= _) _ _ s
    refine wpAny_bind (wpAny_seqItems hS rfl ?_); show wpAny _ A.in1 (tryCatch (pyNext (.ref It)) _ >>= _) _ _ s
    refine wpAny_bind (wpAny_tryCatch (W.item 0 s _ _ hn st fun v s' hP st' hm' => ?_))
    have hS' := hm'.heap S _ nS hS
    have J' := J.moved nfS nfI (hm'.mono sub) ⟨_, hS'⟩ (hIt _ _ st')
    obtain ⟨x, ex', rx⟩ := hPv _ _ hP
    have hx' := List.mem_of_getElem? ex'
    show wpAny _ A.in1 (tryCatch (holding [v] (call (.ref f) [v])) _ >>= _) _ _ _
    refine wpAny_bind (wpAny_tryCatch (wpAny_holding (wpAny_mono (K.turn H s' x v _ J' hx' rx) (fun kx s2 hk => ?_) fun _ _ y => y)))
    obtain ⟨y, H2, J2, r2, k2, tups, fps⟩ := hk
    have hS2 := fps S _ J'.fS hS'
    have st2 := hfp H s' _ J' st' s2 H2 J2 fps
    show wpAny _ A.in1 (updateSeq S (fun _ => #[v, kx]) >>= _) _ _ _
    refine wpAny_bind ?_
    refine wpAny_updateSeq hS2 rfl ?_; rw [nm]
    refine wpAny_pure ⟨plainId_quiet F.plain_min_loop _, min_more W hSf nfS nfI K hPv hnx hSt hfp hIt hR _ 0 _ H2 v kx _ x y rfl hn (J2.moved nfS nfI (moved_upd s2 S It _) ⟨_, Heap.get?_update_self _ hS2 rfl⟩ (by obtain ⟨o, e⟩ := J2.eI; exact ⟨o, (Heap.get?_update_other _ _ (fun z : S = It => nS (by rw [z]; exact List.mem_singleton.mpr rfl))).trans e⟩)) (hSt _ _ _ st2 fun b o hb e => ?_) hx' (fun i' x' hi' e' => by
      obtain rfl : i' = 0 := by omega
      rw [ex'] at e'
      cases e'
      exact K.irr x hx') rx r2 k2 (Heap.get?_update_self _ hS2 rfl)⟩
    exact (Heap.get?_update_other _ _ (fun z : S = b => hSf (z ▸ hb))).trans e
end
section
theorem sqT_extN {K : PySem.W.Frag} {H H' : Hp} (s : ExtN H H') {t : Addr} {xs : List V} (q : SqT K H t xs) : SqT K H' t xs := by
  rcases q with (q | ⟨o, q⟩) | q
  · exact .inl (.inl (s _ _ q fun ps z => by cases z))
  · exact .inl (.inr ⟨o, s _ _ q fun ps z => by cases z⟩)
  · exact .inr q
/-- where the walk of a tuple stands -/
def Stt (xs : List V) (It l : Addr) (i : Nat) (s : Shared) : Prop := ∃ vs : Array Value, Vals xs vs.toList ∧ s.heap.IsTupleIter It l i ∧ s.heap.IsTuple l vs
theorem walk_tt {prog : Program} {w : World} {A : Around} {It l : Addr} {xs : List V} (hh : A.handled = none) (ne : l ≠ It) :
    WalksS prog w A It [It, l] [It] (fun a b => b = a) xs.length (fun i v => ∃ x, xs[i]? = some x ∧ RelV x v) (Stt xs It l) := by
  have W := fun vs : Array Value => (Walks.tuple (prog := prog) (w := w) (A := A) hh It l ne vs).toS
  have sz : ∀ {vs : Array Value}, Vals xs vs.toList → vs.size = xs.length := fun {vs} r => by rw [r.length, Array.length_toList]
  refine ⟨fun b hb => by simp at hb; simp [hb], fun _ => rfl, fun a b c h1 h2 => h2.trans h1, fun i s h' tk st le k => ?_, fun i s Q E hi st h => ?_, fun s Q E st h => ?_, fun i s Q E st h => ?_⟩
  · obtain ⟨vs, r, st⟩ := st
    exact ⟨vs, r, (W vs).frame i s h' tk st le k⟩
  · obtain ⟨vs, r, st⟩ := st
    refine (W vs).item i s Q E (by rw [sz r]; exact hi) st fun v s' hP st' hm => h v s' ?_ ⟨vs, r, st'⟩ hm
    obtain ⟨v', e', rx⟩ := r.get (List.getElem?_eq_getElem hi)
    rw [Array.getElem?_toList, show vs[i]? = some v from hP] at e'
    cases e'
    exact ⟨_, List.getElem?_eq_getElem hi, rx⟩
  · obtain ⟨vs, r, st⟩ := st
    exact (W vs).done s Q E (by rw [sz r]; exact st) h
  · obtain ⟨vs, r, st⟩ := st
    exact (W vs).self i s Q E st h
end
abbrev itO (l : Addr) : Obj := { cls := .type "tuple_iterator", data := .fields #[.ref l, .int 0 0] }
/-- min(e, key=lambda pn: body): some item -/
def tMinLam (K : PySem.W.Frag) (T : List (Addr × Str)) (Ky : Hp → V → PyData → Prop) (ta tb : TE) : TE := fun σ H Q => ta σ H fun x H1 => ∃ (l : Addr) (xs : List V) (kd : V → PyData), x = .ref l ∧ SqT K H1 l xs ∧ xs ≠ [] ∧ Tabs T H1 ∧
  (∀ v ∈ xs, ∀ v' ∈ xs, alike (kd v) (kd v') = true) ∧ (∀ v ∈ xs, kd v ≠ .none ∧ (kd v).depth ≤ 50) ∧ (∀ v ∈ xs, dataLt (kd v) (kd v) = false) ∧ (∀ u ∈ xs, ∀ v ∈ xs, ∀ z ∈ xs, dataLt (kd u) (kd v) = true → dataLt (kd v) (kd z) = true → dataLt (kd u) (kd z) = true) ∧
  (∀ H2, ExtN H1 H2 → Tabs T H2 → ∀ v ∈ xs, tb (some v :: σ) H2 fun y H3 => ExtN H2 H3 ∧ Tabs T H3 ∧ Ky H3 y (kd v)) ∧ ∀ v ∈ xs, (∀ v' ∈ xs, dataLt (kd v') (kd v) = false) → ∀ H', ExtN H1 H' → Tabs T H' → Q v H'
section
variable {X : Cx}
theorem pe_minLam {T : List (Addr × Str)} {Ky : Hp → V → PyData → Prop} {e : Expr} {params : Arguments} {body : Expr} {scope : Scope} {lpos kpos p pos : Pos} {pn : Str} {c P : Addr} {k : Nat} {ta tb : TE}
    (hg : Gl X "min") (hm : X.mg "min" = none) (calm : X.calm = true) (room : Room (k + 3) X.A) (ha : PE X e ta)
    (TB : TabB X.base X.mg c P) (hcode : X.env.code = .ref c) (hmT : (P, X.env.qual ++ "<lambda>") ∈ T) (hu : ∀ p ∈ T, p.1 = P → p.2 = X.env.qual ++ "<lambda>") (L : Lam1 X.env.scope scope pn) (hpn : pn ∉ X.N) (hdef : defaultsOf params X.env = ([], []))
    (hbind : ∀ (q : Str) (cl : List (Str × Addr)) (pm cv ctv u : Value), bindArgs (kla_fn "<lambda>" q params body scope cl pm cv ctv) ⟨[u], []⟩ = pure [(pn, u)])
    (hbody : ∀ (A : Around) (s : Shared) (H : Hp) (f c' : Addr), Room k (A.deeper (lamEnv X scope s.heap.objs.size f c')) → PE (lamX X A s H pn scope f c') body tb)
    (hdz : ∀ H y d, Ky H y d → Dz X.K H y d) (hkeep : ∀ (H H' : Hp) y d, (∀ b zs, H b = some (.tup zs) → H' b = some (.tup zs)) → Ky H y d → Ky H' y d)
    (hs0 : starEach [e] X.env = (false, eval e X.env) :: starEach [] X.env := by rfl) (he : backTo pos (starEach [e] X.env) = (false, eval e X.env) :: backTo pos (starEach [] X.env) := by rfl) (hpl : (backTo pos (starEach [e] X.env)).any (·.1) = false := by rfl) :
    PE X (.Call (.Name "min" p) [e] [⟨some "key", .Lambda params body scope lpos, kpos⟩] pos) (tMinLam X.K T Ky ta tb) := by
  refine ⟨fun pins s σ H Q I h => ?_⟩
  refine wpAny_Call_Name_kw (ld_blt I hg hm (u := .builtin "min") (by decide +kernel) ?_)
  refine PyProof.Rows.callWith_kw (thn ((pa_cons (hs := hs0) ha pa_nil).run pos pins s σ H (fun vs H1 => match vs with
    | [x] => ∃ (l : Addr) (xs : List V) (kd : V → PyData), x = .ref l ∧ SqT X.K H1 l xs ∧ xs ≠ [] ∧ Tabs T H1 ∧
      (∀ v ∈ xs, ∀ v' ∈ xs, alike (kd v) (kd v') = true) ∧ (∀ v ∈ xs, kd v ≠ .none ∧ (kd v).depth ≤ 50) ∧ (∀ v ∈ xs, dataLt (kd v) (kd v) = false) ∧ (∀ u ∈ xs, ∀ v ∈ xs, ∀ z ∈ xs, dataLt (kd u) (kd v) = true → dataLt (kd v) (kd z) = true → dataLt (kd u) (kd z) = true) ∧
      (∀ H2, ExtN H1 H2 → Tabs T H2 → ∀ v ∈ xs, tb (some v :: σ) H2 fun y H3 => ExtN H2 H3 ∧ Tabs T H3 ∧ Ky H3 y (kd v)) ∧ ∀ v ∈ xs, (∀ v' ∈ xs, dataLt (kd v') (kd v) = false) → ∀ H', ExtN H1 H' → Tabs T H' → Q v H'
    | _ => False) I h) fun us s1 hq => ?_) he hpl
  obtain ⟨ws, H1, I1, r1, q1⟩ := hq
  match ws, q1 with
  | [], q1 => exact False.elim q1
  | _ :: _ :: _, q1 => exact False.elim q1
  | [x], q1 =>
    obtain ⟨l, xs, kd, rfl, hs, ne, hT, hal, hso, hirr, htr, hbd, hq⟩ := q1
    obtain ⟨u, rfl, ru⟩ := vals1 r1
    cases ru
    show wpAny _ _ (evalAll ((do let v ← eval (.Lambda params body scope lpos) X.env; standAt pos; pure v) :: [])) _ _ s1
    refine wpAny_evalAll_cons (wpAny_bind (lam_make2 I1 TB hcode hmT hu hT hdef (L.has I1.ok) fun f c' pm ctv H2 s2 I2 eN T2 hf hfn hfr hco => wpAny_bind (wpAny_standAt (wpAny_pure (wpAny_evalAll_nil ?_)))))
    show wpAny _ _ (call (.builtin "min") [.ref l] [(Str.ofString "key", .ref f)]) _ _ s2
    have hs2 := sqT_extN eN hs
    obtain ⟨its, rx, hit, _⟩ := I2.tuple hs2
    have hIt : s2.heap.IsTuple l its.toArray := hit
    have hl : l < s2.heap.objs.size := by obtain ⟨o, ho, _⟩ := hIt; exact Heap.lt_size ho
    have hf' : f < s2.heap.objs.size := Heap.lt_size hf
    have hh : X.A.handled = none := I.ok.hd calm
    have nm : (toString "min" ++ toString ".loop" : String) = "min.loop" := by decide
    refine kmk_tree F.kind_min F.plain_min F.entry_min (kmk_min_key _ _) ?go
    case go =>
      show wpAny _ X.A.in1 (Builtin.Builtins.bindParams "min" ["key", "default"] 0 ⟨[], [(Str.ofString "key", .ref f)]⟩ >>= _) _ _ s2
      refine wpAny_bind (wpAny_of_eq (show Builtin.Builtins.bindParams "min" ["key", "default"] 0 ⟨[], [(Str.ofString "key", .ref f)]⟩ = pure [some (.ref f), none] from rfl) ?_)
      refine wpAny_bind (wpAny_pure (wpAny_bind (wpAny_pyIter_tuple hIt (wpAny_bind (wpAny_newObj_type ?_)))))
      rw [nm]
      -- the iterator, the list
      have sz : (s2.heap.push (itO l)).objs.size = s2.heap.objs.size + 1 := Heap.size_push ..
      show wpAny _ _ _ _ _ { s2 with heap := (s2.heap.push (itO l)).push { cls := .type "list", data := .seq #[] 0 } }
      have le1 : s2.heap.objs.size ≤ s2.heap.objs.size := Nat.le_refl _
      have le2 : s2.heap.objs.size ≤ (s2.heap.push (itO l)).objs.size := by rw [sz]; omega
      have kp : ∀ b o, s2.heap.get? b = some o → ((s2.heap.push (itO l)).push { cls := .type "list", data := .seq #[] 0 }).get? b = some o := fun b o e => Heap.get?_push_of_some _ (Heap.get?_push_of_some _ e)
      have J : Jm X pins σ T H1 (s2.heap.push (itO l)).objs.size s2.heap.objs.size f c' _ (X.env.qual ++ "<lambda>") H2 { s2 with heap := (s2.heap.push (itO l)).push { cls := .type "list", data := .seq #[] 0 } } :=
        ⟨I2.kept (t' := s2.toks) kp, eN, T2, I2.fpOk le2 (I2.hok.fresh le2), I2.fpOk le1 (I2.hok.fresh le1), kp _ _ hf, hfn, hco, ⟨_, Heap.get?_push_size _ rfl⟩, ⟨_, Heap.get?_push_of_some _ (Heap.get?_push_size _ rfl)⟩⟩
      have nS : (s2.heap.push (itO l)).objs.size ∉ [s2.heap.objs.size, l] := fun z => by
        rw [sz] at z
        rcases List.mem_cons.mp z with z | z
        · exact absurd z (Nat.succ_ne_self _)
        · exact absurd hl (by rw [← List.mem_singleton.mp z]; exact Nat.not_lt.mpr (Nat.le_succ _))
      have K : KeyL X pins σ T H1 (s2.heap.push (itO l)).objs.size s2.heap.objs.size f c' (kla_obj "<lambda>" (X.env.qual ++ "<lambda>") params body scope (cloFrom X.env.cells scope.names []) pm c' ctv) (X.env.qual ++ "<lambda>") Ky kd xs X.A.in1 := by
        refine ⟨fun H s v u E J hv rv => ?_, hdz, hkeep, hal, hso, ?_, hirr, htr⟩
        · have fr : X.A.in1.frames = some X.stack := by show X.A.frames = some X.stack; exact I.ok.frames
          refine wpAny_mono (lam_call (E := E) J.inv L hpn J.fn J.cd (hbind _ _ _ _ _ _) fr (room.in1.mono (by omega) : Room (k + 1) _) (fun hr => hbody _ _ _ _ _ hr) rv (hbd H J.ext J.tab v hv)) (fun y s' hq' => ?_) fun _ _ z => z
          obtain ⟨z, H', os, bare, un, hok, rz, eN', T', ky⟩ := hq'
          have I' : Inv X pins σ H' s' := J.inv.call' os un hok bare fun b hb => absurd hb List.not_mem_nil
          have kpt : ∀ b o, FpOk X pins H b → s.heap.get? b = some o → s'.heap.get? b = some o := fun b o fb e => un.keep _ _ e fb.1 (fun hz => by
            rcases List.mem_cons.mp (J.inv.stkSub b hz) with e' | e'
            · exact fb.2.1 e'
            · exact fb.2.2.1 e') List.not_mem_nil
          have fz : ∀ b o, s.heap.get? b = some o → FpOk X pins H b → FpOk X pins H' b := fun b o e fb => ⟨un.free _ _ e fb.1 List.not_mem_nil, fb.2⟩
          obtain ⟨oS, eS⟩ := J.eS
          obtain ⟨oI, eI⟩ := J.eI
          refine ⟨z, H', ⟨I', J.ext.trans eN', T', fz _ _ eS J.fS, fz _ _ eI J.fI, un.keep _ _ J.fn J.nf (fun hz => ?_) List.not_mem_nil, un.free _ _ J.fn J.nf List.not_mem_nil, eN' _ _ J.cd codeO_ne, ⟨_, kpt _ _ J.fS eS⟩, ⟨_, kpt _ _ J.fI eI⟩⟩, rz, ky, un.tups, kpt⟩
          exact hfr hz
        · have := room.units
          show X.A.units + 1 + 60 < cLine
          omega
      refine wpAny_pure ⟨plainId_quiet F.plain_min_loop _, min_first (A := X.A) (fp := [s2.heap.objs.size, l]) (St := Stt xs s2.heap.objs.size l) (walk_tt (A := X.A.in1) hh (Nat.ne_of_lt hl)) nS (Nat.ne_of_lt (Nat.lt_of_lt_of_le hf' le2)) (Nat.ne_of_lt hf') K
        (fun i v ⟨x, e, r⟩ => ⟨x, e, r⟩) rfl (fun i s s' st k => ?_) (fun H s i J st s' H' J' kk => ?_) (fun i s ⟨vs, r, ⟨o, e, _⟩, _⟩ => ⟨o, e⟩) (fun x v s' H' hx hm r I' e' t' => ⟨x, H', I', r, hq x hx hm H' e' t'⟩) (List.length_pos_iff.mpr ne) J ⟨its.toArray, by simpa using rx, ?_, ?_⟩ (Heap.get?_push_size _ rfl)⟩
      · obtain ⟨vs, r, ⟨o, e, r1⟩, ⟨o', e', r2⟩⟩ := st
        exact ⟨vs, r, ⟨o, k _ _ List.mem_cons_self e, r1⟩, ⟨o', k _ _ (by simp) e', r2⟩⟩
      · obtain ⟨vs, r, ⟨o, e, r1⟩, _⟩ := st
        obtain ⟨its', rx', hit', _⟩ := J'.inv.tuple (sqT_extN J'.ext hs)
        exact ⟨its'.toArray, by simpa using rx', ⟨o, kk _ _ J.fI e, r1⟩, hit'⟩
      · exact ⟨_, Heap.get?_push_of_some _ (Heap.get?_push_size _ rfl), rfl, rfl⟩
      · exact (hIt.push _).push _
end
end Xln
set_option Elab.async false
set_option linter.all false
set_option maxRecDepth 100000
set_option maxHeartbeats 4000000
set_option pp.maxSteps 400
set_option pp.deepTerms false
/-! min(a list, key=lambda p: ..): the first of the least -/
namespace Xll
open PySem PySem.Spec PyProof.Rows L2 Az PySem.W LamX Xln
section
theorem sqL_extN {K : PySem.W.Frag} {H H' : Hp} (s : ExtN H H') {t : Addr} {xs : List V} (q : SqL K H t xs) : SqL K H' t xs := by
  rcases q with (q | ⟨o, q⟩) | q
  · exact .inl (.inl (s _ _ q fun ps z => by cases z))
  · exact .inl (.inr ⟨o, s _ _ q fun ps z => by cases z⟩)
  · exact .inr q
/-- where the walk of a tuple stands -/
def Stl (xs : List V) (It l : Addr) (i : Nat) (s : Shared) : Prop := ∃ vs : Array Value, Vals xs vs.toList ∧ s.heap.IsListIter It l i ∧ s.heap.IsList l vs
theorem walk_tl {prog : Program} {w : World} {A : Around} {It l : Addr} {xs : List V} (hh : A.handled = none) (ne : l ≠ It) :
    WalksS prog w A It [It, l] [It] (fun a b => b = a) xs.length (fun i v => ∃ x, xs[i]? = some x ∧ RelV x v) (Stl xs It l) := by
  have W := fun vs : Array Value => (Walks.list (prog := prog) (w := w) (A := A) hh It l ne vs).toS
  have sz : ∀ {vs : Array Value}, Vals xs vs.toList → vs.size = xs.length := fun {vs} r => by rw [r.length, Array.length_toList]
  refine ⟨fun b hb => by simp at hb; simp [hb], fun _ => rfl, fun a b c h1 h2 => h2.trans h1, fun i s h' tk st le k => ?_, fun i s Q E hi st h => ?_, fun s Q E st h => ?_, fun i s Q E st h => ?_⟩
  · obtain ⟨vs, r, st⟩ := st
    exact ⟨vs, r, (W vs).frame i s h' tk st le k⟩
  · obtain ⟨vs, r, st⟩ := st
    refine (W vs).item i s Q E (by rw [sz r]; exact hi) st fun v s' hP st' hm => h v s' ?_ ⟨vs, r, st'⟩ hm
    obtain ⟨v', e', rx⟩ := r.get (List.getElem?_eq_getElem hi)
    rw [Array.getElem?_toList, show vs[i]? = some v from hP] at e'
    cases e'
    exact ⟨_, List.getElem?_eq_getElem hi, rx⟩
  · obtain ⟨vs, r, st⟩ := st
    exact (W vs).done s Q E (by rw [sz r]; exact st) h
  · obtain ⟨vs, r, st⟩ := st
    exact (W vs).self i s Q E st h
end
abbrev itL (l : Addr) : Obj := { cls := .type "list_iterator", data := .fields #[.ref l, .int 0 0] }
/-- min(e, key=lambda pn: body): some item -/
def tMinLamL (K : PySem.W.Frag) (T : List (Addr × Str)) (Ky : Hp → V → PyData → Prop) (ta tb : TE) : TE := fun σ H Q => ta σ H fun x H1 => ∃ (l : Addr) (xs : List V) (kd : V → PyData), x = .ref l ∧ SqL K H1 l xs ∧ xs ≠ [] ∧ Tabs T H1 ∧
  (∀ v ∈ xs, ∀ v' ∈ xs, alike (kd v) (kd v') = true) ∧ (∀ v ∈ xs, kd v ≠ .none ∧ (kd v).depth ≤ 50) ∧ (∀ v ∈ xs, dataLt (kd v) (kd v) = false) ∧ (∀ u ∈ xs, ∀ v ∈ xs, ∀ z ∈ xs, dataLt (kd u) (kd v) = true → dataLt (kd v) (kd z) = true → dataLt (kd u) (kd z) = true) ∧
  (∀ H2, ExtN H1 H2 → Tabs T H2 → ∀ v ∈ xs, tb (some v :: σ) H2 fun y H3 => ExtN H2 H3 ∧ Tabs T H3 ∧ Ky H3 y (kd v)) ∧ ∀ v ∈ xs, (∀ v' ∈ xs, dataLt (kd v') (kd v) = false) → ∀ H', ExtN H1 H' → Tabs T H' → Q v H'
section
variable {X : Cx}
theorem pe_minLamL {T : List (Addr × Str)} {Ky : Hp → V → PyData → Prop} {e : Expr} {params : Arguments} {body : Expr} {scope : Scope} {lpos kpos p pos : Pos} {pn : Str} {c P : Addr} {k : Nat} {ta tb : TE}
    (hg : Gl X "min") (hm : X.mg "min" = none) (calm : X.calm = true) (room : Room (k + 3) X.A) (ha : PE X e ta)
    (TB : TabB X.base X.mg c P) (hcode : X.env.code = .ref c) (hmT : (P, X.env.qual ++ "<lambda>") ∈ T) (hu : ∀ p ∈ T, p.1 = P → p.2 = X.env.qual ++ "<lambda>") (L : Lam1 X.env.scope scope pn) (hpn : pn ∉ X.N) (hdef : defaultsOf params X.env = ([], []))
    (hbind : ∀ (q : Str) (cl : List (Str × Addr)) (pm cv ctv u : Value), bindArgs (kla_fn "<lambda>" q params body scope cl pm cv ctv) ⟨[u], []⟩ = pure [(pn, u)])
    (hbody : ∀ (A : Around) (s : Shared) (H : Hp) (f c' : Addr), Room k (A.deeper (lamEnv X scope s.heap.objs.size f c')) → PE (lamX X A s H pn scope f c') body tb)
    (hdz : ∀ H y d, Ky H y d → Dz X.K H y d) (hkeep : ∀ (H H' : Hp) y d, (∀ b zs, H b = some (.tup zs) → H' b = some (.tup zs)) → Ky H y d → Ky H' y d)
    (hs0 : starEach [e] X.env = (false, eval e X.env) :: starEach [] X.env := by rfl) (he : backTo pos (starEach [e] X.env) = (false, eval e X.env) :: backTo pos (starEach [] X.env) := by rfl) (hpl : (backTo pos (starEach [e] X.env)).any (·.1) = false := by rfl) :
    PE X (.Call (.Name "min" p) [e] [⟨some "key", .Lambda params body scope lpos, kpos⟩] pos) (tMinLamL X.K T Ky ta tb) := by
  refine ⟨fun pins s σ H Q I h => ?_⟩
  refine wpAny_Call_Name_kw (ld_blt I hg hm (u := .builtin "min") (by decide +kernel) ?_)
  refine PyProof.Rows.callWith_kw (thn ((pa_cons (hs := hs0) ha pa_nil).run pos pins s σ H (fun vs H1 => match vs with
    | [x] => ∃ (l : Addr) (xs : List V) (kd : V → PyData), x = .ref l ∧ SqL X.K H1 l xs ∧ xs ≠ [] ∧ Tabs T H1 ∧
      (∀ v ∈ xs, ∀ v' ∈ xs, alike (kd v) (kd v') = true) ∧ (∀ v ∈ xs, kd v ≠ .none ∧ (kd v).depth ≤ 50) ∧ (∀ v ∈ xs, dataLt (kd v) (kd v) = false) ∧ (∀ u ∈ xs, ∀ v ∈ xs, ∀ z ∈ xs, dataLt (kd u) (kd v) = true → dataLt (kd v) (kd z) = true → dataLt (kd u) (kd z) = true) ∧
      (∀ H2, ExtN H1 H2 → Tabs T H2 → ∀ v ∈ xs, tb (some v :: σ) H2 fun y H3 => ExtN H2 H3 ∧ Tabs T H3 ∧ Ky H3 y (kd v)) ∧ ∀ v ∈ xs, (∀ v' ∈ xs, dataLt (kd v') (kd v) = false) → ∀ H', ExtN H1 H' → Tabs T H' → Q v H'
    | _ => False) I h) fun us s1 hq => ?_) he hpl
  obtain ⟨ws, H1, I1, r1, q1⟩ := hq
  match ws, q1 with
  | [], q1 => exact False.elim q1
  | _ :: _ :: _, q1 => exact False.elim q1
  | [x], q1 =>
    obtain ⟨l, xs, kd, rfl, hs, ne, hT, hal, hso, hirr, htr, hbd, hq⟩ := q1
    obtain ⟨u, rfl, ru⟩ := vals1 r1
    cases ru
    show wpAny _ _ (evalAll ((do let v ← eval (.Lambda params body scope lpos) X.env; standAt pos; pure v) :: [])) _ _ s1
    refine wpAny_evalAll_cons (wpAny_bind (lam_make2 I1 TB hcode hmT hu hT hdef (L.has I1.ok) fun f c' pm ctv H2 s2 I2 eN T2 hf hfn hfr hco => wpAny_bind (wpAny_standAt (wpAny_pure (wpAny_evalAll_nil ?_)))))
    show wpAny _ _ (call (.builtin "min") [.ref l] [(Str.ofString "key", .ref f)]) _ _ s2
    have hs2 := sqL_extN eN hs
    obtain ⟨its, rx, ⟨ol, nl, el, el1, el2, el3⟩, _⟩ := I2.list hs2
    have hIt : s2.heap.IsList l its.toArray := by first | exact ⟨ol, el, el1, nl, el2⟩ | exact ⟨ol, el, el1, nl, el3⟩ | exact ⟨ol, el, el2, nl, el3⟩
    have hl : l < s2.heap.objs.size := by obtain ⟨o, ho, _⟩ := hIt; exact Heap.lt_size ho
    have hf' : f < s2.heap.objs.size := Heap.lt_size hf
    have hh : X.A.handled = none := I.ok.hd calm
    have nm : (toString "min" ++ toString ".loop" : String) = "min.loop" := by decide
    refine kmk_tree F.kind_min F.plain_min F.entry_min (kmk_min_key _ _) ?go
    case go =>
      show wpAny _ X.A.in1 (Builtin.Builtins.bindParams "min" ["key", "default"] 0 ⟨[], [(Str.ofString "key", .ref f)]⟩ >>= _) _ _ s2
      refine wpAny_bind (wpAny_of_eq (show Builtin.Builtins.bindParams "min" ["key", "default"] 0 ⟨[], [(Str.ofString "key", .ref f)]⟩ = pure [some (.ref f), none] from rfl) ?_)
      refine wpAny_bind (wpAny_pure (wpAny_bind (wpAny_pyIter_list hIt (wpAny_bind (wpAny_newObj_type ?_)))))
      rw [nm]
      -- the iterator, the list
      have sz : (s2.heap.push (itL l)).objs.size = s2.heap.objs.size + 1 := Heap.size_push ..
      show wpAny _ _ _ _ _ { s2 with heap := (s2.heap.push (itL l)).push { cls := .type "list", data := .seq #[] 0 } }
      have le1 : s2.heap.objs.size ≤ s2.heap.objs.size := Nat.le_refl _
      have le2 : s2.heap.objs.size ≤ (s2.heap.push (itL l)).objs.size := by rw [sz]; omega
      have kp : ∀ b o, s2.heap.get? b = some o → ((s2.heap.push (itL l)).push { cls := .type "list", data := .seq #[] 0 }).get? b = some o := fun b o e => Heap.get?_push_of_some _ (Heap.get?_push_of_some _ e)
      have J : Jm X pins σ T H1 (s2.heap.push (itL l)).objs.size s2.heap.objs.size f c' _ (X.env.qual ++ "<lambda>") H2 { s2 with heap := (s2.heap.push (itL l)).push { cls := .type "list", data := .seq #[] 0 } } :=
        ⟨I2.kept (t' := s2.toks) kp, eN, T2, I2.fpOk le2 (I2.hok.fresh le2), I2.fpOk le1 (I2.hok.fresh le1), kp _ _ hf, hfn, hco, ⟨_, Heap.get?_push_size _ rfl⟩, ⟨_, Heap.get?_push_of_some _ (Heap.get?_push_size _ rfl)⟩⟩
      have nS : (s2.heap.push (itL l)).objs.size ∉ [s2.heap.objs.size, l] := fun z => by
        rw [sz] at z
        rcases List.mem_cons.mp z with z | z
        · exact absurd z (Nat.succ_ne_self _)
        · exact absurd hl (by rw [← List.mem_singleton.mp z]; exact Nat.not_lt.mpr (Nat.le_succ _))
      have K : KeyL X pins σ T H1 (s2.heap.push (itL l)).objs.size s2.heap.objs.size f c' (kla_obj "<lambda>" (X.env.qual ++ "<lambda>") params body scope (cloFrom X.env.cells scope.names []) pm c' ctv) (X.env.qual ++ "<lambda>") Ky kd xs X.A.in1 := by
        refine ⟨fun H s v u E J hv rv => ?_, hdz, hkeep, hal, hso, ?_, hirr, htr⟩
        · have fr : X.A.in1.frames = some X.stack := by show X.A.frames = some X.stack; exact I.ok.frames
          refine wpAny_mono (lam_call (E := E) J.inv L hpn J.fn J.cd (hbind _ _ _ _ _ _) fr (room.in1.mono (by omega) : Room (k + 1) _) (fun hr => hbody _ _ _ _ _ hr) rv (hbd H J.ext J.tab v hv)) (fun y s' hq' => ?_) fun _ _ z => z
          obtain ⟨z, H', os, bare, un, hok, rz, eN', T', ky⟩ := hq'
          have I' : Inv X pins σ H' s' := J.inv.call' os un hok bare fun b hb => absurd hb List.not_mem_nil
          have kpt : ∀ b o, FpOk X pins H b → s.heap.get? b = some o → s'.heap.get? b = some o := fun b o fb e => un.keep _ _ e fb.1 (fun hz => by
            rcases List.mem_cons.mp (J.inv.stkSub b hz) with e' | e'
            · exact fb.2.1 e'
            · exact fb.2.2.1 e') List.not_mem_nil
          have fz : ∀ b o, s.heap.get? b = some o → FpOk X pins H b → FpOk X pins H' b := fun b o e fb => ⟨un.free _ _ e fb.1 List.not_mem_nil, fb.2⟩
          obtain ⟨oS, eS⟩ := J.eS
          obtain ⟨oI, eI⟩ := J.eI
          refine ⟨z, H', ⟨I', J.ext.trans eN', T', fz _ _ eS J.fS, fz _ _ eI J.fI, un.keep _ _ J.fn J.nf (fun hz => ?_) List.not_mem_nil, un.free _ _ J.fn J.nf List.not_mem_nil, eN' _ _ J.cd codeO_ne, ⟨_, kpt _ _ J.fS eS⟩, ⟨_, kpt _ _ J.fI eI⟩⟩, rz, ky, un.tups, kpt⟩
          exact hfr hz
        · have := room.units
          show X.A.units + 1 + 60 < cLine
          omega
      refine wpAny_pure ⟨plainId_quiet F.plain_min_loop _, min_first (A := X.A) (fp := [s2.heap.objs.size, l]) (St := Stl xs s2.heap.objs.size l) (walk_tl (A := X.A.in1) hh (Nat.ne_of_lt hl)) nS (Nat.ne_of_lt (Nat.lt_of_lt_of_le hf' le2)) (Nat.ne_of_lt hf') K
        (fun i v ⟨x, e, r⟩ => ⟨x, e, r⟩) rfl (fun i s s' st k => ?_) (fun H s i J st s' H' J' kk => ?_) (fun i s ⟨vs, r, ⟨o, e, _⟩, _⟩ => ⟨o, e⟩) (fun x v s' H' hx hm r I' e' t' => ⟨x, H', I', r, hq x hx hm H' e' t'⟩) (List.length_pos_iff.mpr ne) J ⟨its.toArray, by simpa using rx, ?_, ?_⟩ (Heap.get?_push_size _ rfl)⟩
      · obtain ⟨vs, r, ⟨o, e, r1⟩, ⟨o', e', r2⟩⟩ := st
        exact ⟨vs, r, ⟨o, k _ _ List.mem_cons_self e, r1⟩, ⟨o', k _ _ (by simp) e', r2⟩⟩
      · obtain ⟨vs, r, ⟨o, e, r1⟩, _⟩ := st
        obtain ⟨its', rx', ⟨ol', nl', f1, f2, f3, f4⟩, _⟩ := J'.inv.list (sqL_extN J'.ext hs)
        exact ⟨its'.toArray, by simpa using rx', ⟨o, kk _ _ J.fI e, r1⟩, by first | exact ⟨ol', f1, f2, nl', f3⟩ | exact ⟨ol', f1, f2, nl', f4⟩ | exact ⟨ol', f1, f3, nl', f4⟩⟩
      · exact ⟨_, Heap.get?_push_of_some _ (Heap.get?_push_size _ rfl), rfl, rfl⟩
      · exact (hIt.push _).push _
end
end Xll
set_option Elab.async false
set_option linter.all false
set_option maxRecDepth 100000
set_option maxHeartbeats 4000000
set_option pp.maxSteps 400
set_option pp.deepTerms false
/-! list(d.values()); max(l, default=d) of numbers -/
namespace Xvl
open PySem PySem.Spec PyProof.Rows L2 PySem.W
theorem kv_vals {κ : Type} : ∀ {kvs : List (κ × V)} {vs : List (κ × Value)}, KV kvs vs → Vals (kvs.map (·.2)) (vs.map (·.2))
  | [], _, h => by cases h; exact .nil
  | (k, v) :: r, _, h => by
    cases h with
    | cons h1 h2 => exact .cons h1.2 (kv_vals h2)
/-- *e ahead of other items, e a list -/
def tStarL (K : PySem.W.Frag) (ta : TE) (tr : TA) : TA := fun σ H Q => ta σ H fun x H1 => ∃ a xs, x = .ref a ∧ SqL K H1 a xs ∧ tr σ H1 fun ys H2 => Q (xs ++ ys) H2
theorem pa_starL {X : Cx} {e : Expr} {es : List Expr} {te : TE} {t : TA} {p : Pos} (ha : PE X e te) (hr : PA X es t) : PA X (.Starred e p :: es) (tStarL X.K te t) := by
  refine ⟨fun pos pins s σ H Q I h => ?_⟩
  refine items_star (thn (ha.run pins s σ H _ I h) fun u s1 ⟨x, H1, I1, r1, a, xs, ex, hq, q⟩ => ?_)
  subst ex
  obtain rfl : u = Value.ref a := r1
  refine StX.star_lst I1 hq fun us s2 I2 rv => ?_
  exact thn (hr.run pos pins s2 σ H1 _ I2 q) fun ws s3 ⟨ys, H2, I3, r2, q2⟩ => ⟨xs ++ ys, H2, I3, rv.append r2, q2⟩
def tListVals (td : TE) : TE := fun σ H Q => td σ H fun x H1 => ∃ d kvs, x = .ref d ∧ H1 d = some (.dK kvs) ∧ ∀ p, H1 p = none → p ≠ sysModules → Q (.ref p) (upd H1 p (.lst (kvs.map (·.2))))
section
variable {X : Cx}
theorem pe_listVals {e : Expr} {td : TE} {p pos apos cpos : Pos} (hc : X.calm = true) (hg : Gl X "list") (hm : X.mg "list" = none) (he : PE X e td) (hbase : attributeBase e "values" X.env (eval e X.env) = eval e X.env := by rfl) (hline : (apos.endLine == cpos.line) = true := by rfl)
    (na : starEach [.Call (.Attribute e "values" apos) [] [] cpos] X.env = (false, eval (.Call (.Attribute e "values" apos) [] [] cpos) X.env) :: starEach [] X.env := by rfl) :
    PE X (.Call (.Name "list" p) [.Call (.Attribute e "values" apos) [] [] cpos] [] pos) (tListVals td) := by
  refine ⟨fun pins s σ H Q I h => ?_⟩
  refine Call_ (ld_blt I hg hm (u := .type "list") (by decide +kernel) ?_); refine PyProof.Rows.callWith_type1 (PyProof.Rows.args_cons ?_ na) na rfl
  refine wpAny_Call_method (T := "dict") (id := "dict.values") hbase rfl hline F.plainAttrs_dict F.slot_dict_values F.type_dict_values (thn (he.run pins s σ H _ I h) fun u s1 ⟨x, H1, I1, rx, d, kvs, ex, hd, q⟩ => ?_)
  subst ex
  obtain rfl : u = Value.ref d := rx
  obtain ⟨z, hsys, vs, rel, dd⟩ := dk_of I1.hok hd
  refine ⟨dd.typeIs, dd.mapOf.noDict, ?_⟩
  have I2 : Inv X pins σ H1 { s1 with heap := s1.heap.push { cls := .type "dict_values", data := .fields #[.ref d] } } := I1.kept (t' := s1.toks) fun b ob q => Heap.get?_push_of_some _ q
  obtain ⟨ep, da⟩ := dd.dictAt
  have hl : kvs.length = vs.length := Paired.length rel
  refine method_meetsIn F.slot_dict_values F.entry_dict_values rfl (PySem.evalArgs_none ⟨rfl, dd.typeIs, F.args_dict_values_1 _, _, meets_dict_values (mixKind X.prog X.w) d hsys, ⟨vs, dd⟩, PyProof.Rows.args_nil ?_⟩)
  refine kdl_call (kdl_values (knd := mixKind X.prog X.w) (kvs := vs) (ep := ep) (d := d) (r := s1.heap.objs.size)) (I1.ok.hd hc) ⟨⟨_, Heap.get?_push_size _ rfl, rfl, rfl⟩, da.push _⟩ (by rw [← hl]; exact z) fun h' tk acc' c' hk hS it => ?_
  have ea : acc'.toList = vs.map (·.2) := kdl_vals_eq acc'.toList (by rw [Array.length_toList]; exact it.1) fun j v e => it.2 j v (by rw [← Array.getElem?_toList]; exact e)
  have rv : Vals (kvs.map (·.2)) acc'.toList := by rw [ea]; exact kv_vals rel
  have new : H1 (s1.heap.push { cls := .type "dict_values", data := .fields #[.ref d] }).objs.size = none := I2.hok.fresh (Nat.le_refl _)
  refine ⟨.ref _, upd H1 (s1.heap.push { cls := .type "dict_values", data := .fields #[.ref d] }).objs.size (.lst (kvs.map (·.2))), I2.laid (t' := tk) hk (Nat.le_refl _) ?_, rfl, q _ new (Nat.ne_of_gt I2.big)⟩
  exact ⟨by rw [List.length_map]; exact z, acc'.toList, c', rv, by rw [Array.toArray_toList]; exact hS⟩
/-- max(l, default=d) of numbers -/
def tMaxDef (K : PySem.W.Frag) (d : Int) (ta : TE) : TE := fun σ H Q => ta σ H fun x H1 => ∃ l, ∃ ns : List Int, x = .ref l ∧ SqL K H1 l (ns.map V.int) ∧ Q (.int (match ns with | [] => d | n :: r => r.foldl max n)) H1
theorem pe_maxDef {e : Expr} {ta : TE} {d : Int} {j : Nat} {p pos kpos cpos : Pos} {k : Nat} (hc : X.calm = true) (room : Room k X.A) (hg : Gl X "max") (hm : X.mg "max" = none) (ha : PE X e ta)
    (hs0 : starEach [e] X.env = (false, eval e X.env) :: starEach [] X.env := by rfl) (he : backTo pos (starEach [e] X.env) = (false, eval e X.env) :: backTo pos (starEach [] X.env) := by rfl) (hpl : (backTo pos (starEach [e] X.env)).any (·.1) = false := by rfl) :
    PE X (.Call (.Name "max" p) [e] [⟨some "default", .Constant (.int d) j cpos, kpos⟩] pos) (tMaxDef X.K d ta) := by
  refine ⟨fun pins s σ H Q I h => ?_⟩
  refine wpAny_Call_Name_kw (ld_blt I hg hm (u := .builtin "max") (by decide +kernel) ?_)
  refine PyProof.Rows.callWith_kw (thn ((pa_cons (hs := hs0) ha pa_nil).run pos pins s σ H (fun vs H1 => match vs with
    | [x] => ∃ l, ∃ ns : List Int, x = .ref l ∧ SqL X.K H1 l (ns.map V.int) ∧ Q (.int (match ns with | [] => d | n :: r => r.foldl max n)) H1
    | _ => False) I h) fun us s1 hq => ?_) he hpl
  obtain ⟨ws, H1, I1, r1, q1⟩ := hq
  match ws, q1 with
  | [], q1 => exact False.elim q1
  | _ :: _ :: _, q1 => exact False.elim q1
  | [x], q1 =>
    obtain ⟨l, ns, rfl, hs, hq⟩ := q1
    obtain ⟨u, rfl, ru⟩ := vals1 r1
    cases ru
    show wpAny _ _ (evalAll ((do let v ← eval (.Constant (.int d) j cpos) X.env; standAt pos; pure v) :: [])) _ _ s1
    refine wpAny_evalAll_cons (wpAny_bind (thn ((pe_int (X := X) (i := d)).run pins s1 σ H1 (fun y H2 => y = .int d ∧ H2 = H1) I1 ⟨rfl, rfl⟩) fun v s2 hv => wpAny_bind (wpAny_standAt (wpAny_pure (wpAny_evalAll_nil ?_)))))
    obtain ⟨y, H2, I2, ry, rfl, rfl⟩ := hv
    obtain ⟨t, rfl⟩ := ry
    obtain ⟨its, rx, ⟨ol, nl, el, el1, el2, el3⟩, _⟩ := I2.list hs
    have hIt : s2.heap.IsList l its.toArray := by first | exact ⟨ol, el, el1, nl, el2⟩ | exact ⟨ol, el, el1, nl, el3⟩ | exact ⟨ol, el, el2, nl, el3⟩
    have ia : IntsAre its ns := ints_of_vals rx
    have hh : X.A.handled = none := I2.ok.hd hc
    have hu := room.un
    show wpAny _ _ (call (.builtin "max") [.ref l] [(Str.ofString "default", .int d t)]) _ _ s2
    refine max_list_default hh hIt (IntsAre.reads _ (by simpa using ia)) (⟨fun x hx y hy => by
      obtain ⟨a, _, rfl⟩ := List.mem_map.mp hx
      obtain ⟨b, _, rfl⟩ := List.mem_map.mp hy
      rfl, fun x hx z => by
      obtain ⟨a, _, rfl⟩ := List.mem_map.mp hx
      cases z⟩ : AlikeAll (ns.map .int)) (by rw [Xt.depth_ints]; omega) (fun e h' tk kp => ?_) fun y ys i v h' tk bs e hi r kp => ?_
    · have e0 : ns = [] := List.map_eq_nil_iff.mp e
      rw [e0] at hq
      exact ⟨.int d, H2, I2.kept kp, ⟨_, rfl⟩, hq⟩
    · cases ns with
      | nil => cases e
      | cons n r2 =>
        rw [List.map_cons] at e
        injection e with e1 e2
        subst e1
        subst e2
        rw [maxD_ints] at r
        cases r
        exact ⟨.int _, H2, I2.kept kp, ⟨_, rfl⟩, hq⟩
/-- max(t) of a tuple of numbers -/
def rMaxT (K : PySem.W.Frag) : List V → Hp → VK → Prop := fun vs H Q => ∃ (a : Addr) (n : Int) (ns : List Int), vs = [V.ref a] ∧ SqT K H a ((n :: ns).map V.int) ∧ Q (.int (ns.foldl max n)) H
theorem cr_maxT {k : Nat} (hc : X.calm = true) (room : Room k X.A) : CallR X (.builtin "max") (rMaxT X.K) := by
  intro pins s σ H vs us Q I r h
  obtain ⟨a, n, ns, rfl, hs, q⟩ := h
  obtain ⟨u, rfl, ru⟩ := vals1 r
  cases ru
  obtain ⟨its, rv, ⟨o, ho, hcl, nn, hd⟩, hz⟩ := I.tuple hs
  have hIt : s.heap.IsTuple a its.toArray := by first | exact ⟨o, ho, hcl, nn, hd⟩ | exact ⟨o, ho, hcl, hd⟩
  have ia : IntsAre its (n :: ns) := ints_of_vals rv
  have hu := room.un
  refine max_tuple_data (I.ok.hd hc) hIt (x := .int n) (xs := ns.map .int) (by have := IntsAre.reads s.heap (by simpa using ia : IntsAre its.toArray.toList (n :: ns)); simpa using this) (⟨fun x hx y hy => by
      have hx : x ∈ (n :: ns).map PyData.int := hx
      have hy : y ∈ (n :: ns).map PyData.int := hy
      obtain ⟨a, _, rfl⟩ := List.mem_map.mp hx
      obtain ⟨b, _, rfl⟩ := List.mem_map.mp hy
      rfl, fun x hx z => by
      have hx : x ∈ (n :: ns).map PyData.int := hx
      obtain ⟨a, _, rfl⟩ := List.mem_map.mp hx
      cases z⟩ : AlikeAll (.int n :: ns.map .int)) (by
        have e : PyData.depthAll (.int n :: ns.map .int) = 0 := Xt.depth_ints (n :: ns)
        rw [e]
        omega) fun i v h' tk bs hi rd kp => ?_
  rw [maxD_ints] at rd
  cases rd
  exact ⟨.int _, H, I.kept kp, ⟨_, rfl⟩, q⟩
end
end Xvl
set_option Elab.async false
set_option linter.all false
set_option maxRecDepth 100000
set_option maxHeartbeats 4000000
set_option pp.maxSteps 400
set_option pp.deepTerms false
/-! list.extend(tuple); o.m(a=e) by keywords alone -/
namespace Xex
open PySem PySem.Spec PyProof.Rows L2
theorem ext_tup (p : Addr) (us : Array Value) (k : Nat) (r : Addr) (ws : Array Value) (j : Nat) (di : Option Addr) (so : Array (Option Value)) (e0 : ¬(!us.isEmpty && Builtin.List.listTooLong (us.size + ws.size)) = true) (e1 : us.size ≤ sizeLine) (e2 : us.size + ws.size ≤ sizeLine + 1) :
    Meets (Builtin.«list.extend» ⟨[Value.ref p, Value.ref r], []⟩) (fun _ R z => z.heap.get? p = some { cls := .type "list", dict := none, data := .seq us k, slots := #[] } ∧ z.heap.get? r = some { cls := .type "tuple", dict := di, data := .seq ws j, slots := so } ∧ R (.ok (.ret Value.none)) { z with heap := z.heap.update p (Obj.mapSeq fun y => y ++ ws), toks := z.toks }) :=
  .of_wp fun prog w A R z h => by
    obtain ⟨hp, g, d, tk, os⟩ := z
    obtain ⟨h1, h2, h⟩ := h
    have fa := AutoSeq1.idx_int
    have fb := AutoSeq1.sub_tuple_tuple
    have fc := AutoSeq1.sub_list_list
    have fd := AutoSeq1.sub_tuple_list
    have fe := AutoSeq1.sub_list_tuple
    have big : (us ++ ws).size ≤ sizeLine + 1 := by
      rw [Array.size_append]
      exact e2
    wp_walk using (wpAny_updateSeq h1 rfl (hz := e1) (_hz' := big)), wpAny_loadPart' h1, wpAny_loadPart' h2
    exact ⟨_, rfl, h⟩
section
variable {X : Cx}
def rExtT : V → List V → Hp → VK → Prop := fun x ys H Q => ∃ p r as bs, x = .ref p ∧ ys = [.ref r] ∧ H p = some (.lst as) ∧ H r = some (.tup bs) ∧ as.length + bs.length ≤ sizeLine ∧ Q .non (upd H p (.lst (as ++ bs)))
theorem mt_extT : MtM X "list.extend" rExtT := by
  intro pins s σ H x ys v us Q I rx rv h
  obtain ⟨p, r, as, bs, rfl, rfl, eP, eR, hz, q⟩ := h
  cases rx
  obtain ⟨u, rfl, ru⟩ := rv.one
  cases ru
  obtain ⟨z, its, n, ra, hl, e⟩ := I.lstM eP
  have okR : ObjOk X.prog X.w H s.heap r (.tup bs) := I.hok r _ eR
  obtain ⟨_, jts, rb, ⟨oc, od, oda, osl⟩, eh, ec, m, ed⟩ := okR
  dsimp only at ec ed
  subst ec ed
  have lb := rb.length
  have fits : its.toArray.size + jts.toArray.size ≤ sizeLine := by
    rw [List.size_toArray, List.size_toArray]
    omega
  have few : ¬ (!its.toArray.isEmpty && Builtin.List.listTooLong (its.toArray.size + jts.toArray.size)) = true := by
    rw [notLongL fits, Bool.and_false]
    exact Bool.false_ne_true
  refine call_meets F.slot_list_extend ⟨_, e, rfl⟩ F.entry_list_extend (F.args_list_extend_2 _ _) (ext_tup p its.toArray n r jts.toArray m od osl few (by rw [List.size_toArray]; omega) (by omega)) ⟨e, eh, ?_⟩
  refine ⟨.non, _, I.lset (its' := its ++ jts) eP e (by simp) (ra.append rb) ?_, rfl, q⟩
  rw [List.length_append]
  omega
end
section
variable {X : Cx} {CX : CXT} {k : Nat} {f C : Addr} {fd : FuncData} {ps ks : List Str} {sp : Sp} {E : XK} {m : Str} {o : Expr} {apos pos : Pos} {kws : List Keyword} {ta : TE} {tk : TA} {g : List Value → List Value → List Value} {gV : List V → List V → List V}
def tMethK (C : Addr) (m : Str) (n : Nat) (sp : Sp) (gV : List V → List V → List V) (E : XK) (ta : TE) (tk : TA) : TE := fun σ H Q => ta σ H fun x H1 => ∃ a dx fs, x = .ref a ∧ H1 a = some (.ins C dx fs) ∧ fs.lookup m = none ∧ tk σ H1 fun zs H2 => zs.length = n ∧ sp (gV [x] zs) H2 Q E
theorem pe_methK {pl : Sem Bool} (he : PE X o ta) (c : Cls X.K C) (hm : Meth X.K C m f) (F : FnOk X.prog X.w X.K X.mg X.base CX k f fd ps sp) (room : Room k X.A) (kb : KBn X.K fd ps 1 ks g gV) (px : Passes CX X E) (pk : PK X kws tk)
    (hall : (backToKw pos (keywordEach kws X.env)).all (·.1.isSome) = true := by rfl) (hks : (backToKw pos (keywordEach kws X.env)).filterMap (·.1) = ks := by rfl)
    (hpl : ((backTo pos (starEach [] X.env)).any (·.1) || (backToKw pos (keywordEach kws X.env)).any (·.1.isNone)) = false := by rfl)
    (ht : eval (.Call (.Attribute o m apos) [] kws pos) X.env = (do
      let ov ← eval o X.env
      standAt apos.atName
      let (fn, fst) ← holding [ov] (getMethod ov m pl)
      callWith pos fn fst (backTo pos (starEach [] X.env)) (backToKw pos (keywordEach kws X.env))) := by rfl) :
    PE X (.Call (.Attribute o m apos) [] kws pos) (tMethK C m ks.length sp gV E ta tk) := by
  refine ⟨fun pins s σ H Q I h => ?_⟩
  refine PySem.W.methodCall_KW (pl := pl) (thn (he.run pins s σ H _ I h) fun u s1 ⟨x, H1, I1, rx, a, dx, fs, ex, ea, l, q⟩ => ?_) ht
  subst ex
  obtain rfl : u = Value.ref a := rx
  refine getmeth_ok I1 ea c hm l ?_
  refine PySem.W.callWith_KW0 (first := [.ref a]) (h₀ := X.base) I.ok.mod.kin hm.kp hall (thn (pk.run pos pins s1 σ H1 _ I1 q) fun ws s2 z => ?_) hpl
  obtain ⟨zs, H2, I2, rz, l2, q2⟩ := z
  refine ⟨I2.kIn, ?_⟩
  rw [hks]
  exact run_fnN (us := [.ref a]) (vs := [.ref a]) F room kb px I2 (.cons rfl .nil) rz rfl l2 q2
end
end Xex
set_option Elab.async false
set_option linter.all false
set_option maxRecDepth 100000
set_option maxHeartbeats 4000000
set_option pp.maxSteps 400
set_option pp.deepTerms false
/-! sorted(xs, key=o.m): the key a bound method; o.m as a value -/
namespace Xsm
open PySem PySem.Spec PyProof.Rows L2
/-! ## sorted(xs, key=f), f a def of the text, xs a list or a tuple -/
/-- the items that list() would give: of a list, of a tuple -/
theorem collect_seq {prog : Program} {w : World} {A : Around} {E : Value → Shared → Prop} {s : Shared} {l : Addr} {o : Obj} {vs : List Value} {n : Nat} {T : String} {Q : List Value → Shared → Prop}
    (ho : s.heap.get? l = some o) (hT : T = "list" ∨ T = "tuple") (hc : o.cls = .type T) (hd : o.data = .seq vs.toArray n) (hz : vs.length ≤ sizeLine)
    (h : Q vs { s with heap := (s.heap.push (seqObj "list" #[] 0)).update s.heap.objs.size (Obj.mapSeq (· ++ vs.toArray)) }) : wpAny (model prog w) A (collect (.ref l)) Q E s := by
  unfold collect
  refine wpAny_bind (wpAny_runValue (codeAny_builtin entry_proto_collect' ?_))
  show wpAny _ _ (do again (.builtin "list.__iadd__" ⟨[← newList [], .ref l], []⟩)) _ _ s
  refine wpAny_bind (wpAny_newList (wpAny_pure ⟨Code.quiet_builtin _ (by decide +kernel), codeAny_builtin entry_list_iadd' ?_⟩))
  show wpAny _ _ (Builtin.List.listExtendWith (.ref s.heap.objs.size) (.ref l) (.ref s.heap.objs.size)) _ _ { s with heap := s.heap.push (seqObj "list" #[] 0) }
  unfold Builtin.List.listExtendWith
  have at_l : (s.heap.push (seqObj "list" #[] 0)).get? l = some o := Heap.get?_push_of_some _ ho
  have at_n : (s.heap.push (seqObj "list" #[] 0)).get? s.heap.objs.size = some (seqObj "list" #[] 0) := Heap.get?_push_size _ rfl
  refine wpAny_bind (wpAny_typeOf (T := T) ⟨o, at_l, hc⟩ ?_)
  have yes : (Builtin.List.listSameRef (.ref s.heap.objs.size) (.ref l) || Value.type T == Value.type "list" || Value.type T == Value.type "tuple") = true := by
    rcases hT with rfl | rfl
    · rw [show (Value.type "list" == Value.type "list") = true from rfl]
      simp
    · rw [show (Value.type "tuple" == Value.type "tuple") = true from rfl]
      simp
  rw [if_pos yes]
  refine wpAny_bind (listItems_at at_l hd ?_)
  refine wpAny_bind (listItems_at (xs := #[]) (n := 0) at_n rfl ?_)
  rw [if_neg (by simp)]
  refine wpAny_bind (listUpdate_at (xs := #[]) (n := 0) at_n rfl ?_ (Nat.zero_le _) ?_)
  · refine wpAny_pure ?_
    show wpAny (model prog w) A (do
        let ob ← load s.heap.objs.size
        match ob.data with
        | .seq xs _ => pure xs.toList
        | _ => unsupported "internal:collect") Q E { s with heap := (s.heap.push (seqObj "list" #[] 0)).update s.heap.objs.size (Obj.mapSeq (· ++ vs.toArray)) }
    refine wpAny_bind (wpAny_load (get?_update_seq at_n _) ?_)
    have e : ((#[] : Array Value) ++ vs.toArray).toList = vs := by simp
    show wpAny _ _ (pure ((#[] : Array Value) ++ vs.toArray).toList) Q E _
    rw [e]
    exact wpAny_pure h
  · show (#[] ++ vs.toArray).size ≤ sizeLine + 1
    simp only [Array.size_append, List.size_toArray, List.length_nil]
    omega
/-- sorted(xs, ..) is the sort of a new list -/
theorem sorted_seq {prog : Program} {w : World} {A : Around} {E : Value → Shared → Prop} {s : Shared} {l : Addr} {o : Obj} {vs : List Value} {n : Nat} {T : String} {kw : List (Str × Value)} {Q : Value → Shared → Prop}
    (ho : s.heap.get? l = some o) (hT : T = "list" ∨ T = "tuple") (hc : o.cls = .type T) (hd : o.data = .seq vs.toArray n) (hz : vs.length ≤ sizeLine)
    (ha1 : argsOk "sorted" ⟨[.ref l], kw⟩) (ha2 : ∀ x, argsOk "list.sort" ⟨[.ref x], kw⟩)
    (body : ∀ E' : Value → Shared → Prop, wpAny (model prog w) A.in1.in1 (Builtin.«list.sort» ⟨[.ref (s.heap.objs.size + 1)], kw⟩)
      (fun f s' => f = .done (.ret .none) ∧ Q (.ref (s.heap.objs.size + 1)) s') E' { s with heap := PySem.W.copyHeap s.heap vs }) :
    wpAny (model prog w) A (call (.builtin "sorted") [.ref l] kw) Q E s := by
  refine PyProof.Rows.call_function_entry_kw kind_sorted plain_sorted entry_sorted ha1 ?_
  unfold Builtin.«sorted»
  refine wpAny_bind (m := checkCount "sorted" 1 1 _) (wpAny_pure ?_)
  refine wpAny_bind (collect_seq ho hT hc hd hz (wpAny_bind (wpAny_newList ?_ hz)))
  have sz : ((s.heap.push (seqObj "list" #[] 0)).update s.heap.objs.size (Obj.mapSeq (· ++ vs.toArray))).objs.size = s.heap.objs.size + 1 := by
    rw [Heap.size_update, size_push']
  show wpAny _ _ _ _ _ { s with heap := PySem.W.copyHeap s.heap vs }
  rw [sz]
  refine wpAny_bind (wpAny_holding (wpAny_call_entry_kw slot_list_sort ⟨_, PySem.W.copyHeap_at s.heap vs, rfl⟩ entry_list_sort ?body (ha2 _)))
  case body =>
    refine wpAny_mono (body _) (fun f s' hf => ?_) fun _ _ e => e
    obtain ⟨rfl, hq⟩ := hf
    exact ⟨_, rfl, wpAny_pure ⟨_, rfl, hq⟩⟩
theorem sqT_same {K : PySem.W.Frag} {H H' : Hp} (s : Same H H') {t : Addr} {xs : List V} (q : SqT K H t xs) : SqT K H' t xs := by
  rcases q with (q | ⟨o, q⟩) | q
  · exact .inl (.inl (s _ _ q))
  · exact .inl (.inr ⟨o, s _ _ q⟩)
  · exact .inr q
section
variable {K : PySem.W.Frag} {H H' : Hp}
mutual
theorem dp_same (s : Same H H') : ∀ (d : PyData) (v : V), Dp K H v d → Dp K H' v d
  | .none, _, h => by
    cases h
    exact .non
  | .bool b, _, h => by
    cases h
    exact .bl b
  | .int i, _, h => by
    cases h
    exact .int i
  | .str x, _, h => by
    cases h
    exact .str x
  | .list ds, _, h => by
    cases h with
    | lst q r => exact .lst (s.seq q) (dpAll_same s ds _ r)
  | .tuple ds, _, h => by
    cases h with
    | tup q r => exact .tup (sqT_same s q) (dpAll_same s ds _ r)
  | .dict _, _, h => by cases h
theorem dpAll_same (s : Same H H') : ∀ (ds : List PyData) (vs : List V), DpAll K H vs ds → DpAll K H' vs ds
  | [], _, h => by
    cases h
    exact .nil
  | d :: ds, _, h => by
    cases h with
    | cons q r => exact .cons (dp_same s d _ q) (dpAll_same s ds _ r)
end
end
section
variable {X : Cx} {pins : List (Addr × Obj)} {σ : L2.St} {H : Hp}
/-- what stands beside the heap's own things, behind a call -/
theorem fp_on {H' : Hp} {b : Addr} (f : FpOk X pins H b) (n : H' b = none) : FpOk X pins H' b := ⟨n, f.2⟩
theorem fp_stack {s : Shared} {b : Addr} (I : Inv X pins σ H s) (f : FpOk X pins H b) : b ∉ frs X.stack := fun z => by
  rcases List.mem_cons.mp (I.stkSub b z) with e | e
  · exact f.2.1 e
  · exact f.2.2.1 e
/-- an object of nobody's becomes a list of ours, another is let go -/
theorem Inv.take {s : Shared} {h' : Heap} {a kS : Addr} {ys : List V} {out : List Value} {c t' : Nat} (I : Inv X pins σ H s) (fa : FpOk X pins H a) (fk : FpOk X pins H kS) (keep : ∀ b o, b ≠ a → b ≠ kS → s.heap.get? b = some o → h'.get? b = some o)
    (hz : ys.length ≤ sizeLine) (rv : Vals ys out) (na : h'.get? a = some (seqObj "list" out.toArray c)) : Inv X pins σ (upd H a (.lst ys)) { s with heap := h', toks := t' } := by
  have ne : ∀ b o, H b = some o → b ≠ a ∧ b ≠ kS := fun b o e => ⟨ne_of_none e fa.1, ne_of_none e fk.1⟩
  have off : ∀ {b : Addr}, b ∉ [a, kS] → b ≠ a ∧ b ≠ kS := fun {b} z => ⟨fun q => z (by simp [q]), fun q => z (by simp [q])⟩
  have u : Un (frs X.stack) [a, kS] H (upd H a (.lst ys)) s.heap h' := by
    refine ⟨fun b o e n _ hx => keep b o (off hx).1 (off hx).2 e, fun b o e n _ hx => ⟨o.slots, keep b o (off hx).1 (off hx).2 e⟩, fun b o e n hx => ?_, fun b o e hx => ⟨o, keep b o (off hx).1 (off hx).2 e⟩, fun b zs e => ?_, fun b o z e => ?_, fun b ps e => ⟨#[], ?_⟩⟩
    · rw [upd_ne (off hx).1]
      exact n
    · rw [upd_ne (ne _ _ e).1]
      exact e
    · rw [upd_ne (ne _ _ e).1]
      exact e
    · rw [upd_ne (ne _ _ e).1, e]
      simp
  have ok : HOk X.prog X.w (upd H a (.lst ys)) h' := fun b o e => by
    by_cases hb : b = a
    · subst hb
      rw [upd_same] at e
      cases e
      exact ⟨hz, out, c, rv, na⟩
    · rw [upd_ne hb] at e
      refine (I.hok b o e).stay (fun z v hz' q => ?_) (fun z q => ?_) fun z zs q => ?_
      · have nz : z ≠ a ∧ z ≠ kS := by
          rcases hz' with e1 | e1
          · rw [e1]
            exact ne _ _ e
          · exact ne _ _ e1
        exact keep z v nz.1 nz.2 q
      · rw [upd_ne (ne _ _ q).1]
        exact q
      · rw [upd_ne (ne _ _ q).1]
        exact q
  refine I.call (g' := s.gens) (d' := s.drawn) (t' := t') (ch := [a, kS]) u ok I.bare fun b hb => ?_
  rcases List.mem_cons.mp hb with e | e
  · rw [e]
    exact ⟨fa.2.2.2.1, fa.2.1, fa.2.2.2.2.1, fa.2.2.2.2.2⟩
  · rw [List.mem_singleton.mp e]
    exact ⟨fk.2.2.2.1, fk.2.1, fk.2.2.2.2.1, fk.2.2.2.2.2⟩
theorem vals_each : ∀ {xs : List V} {vs : List Value}, Vals xs vs → PySem.W.EachIs (fun v x => RelV x v) vs xs
  | _, _, .nil => .nil
  | _, _, .cons r t => .cons r (vals_each t)
theorem each_vals : ∀ {xs : List V} {vs : List Value}, PySem.W.EachIs (fun v x => RelV x v) vs xs → Vals xs vs
  | _, _, .nil => .nil
  | _, _, .cons r t => .cons r (each_vals t)
end
section
variable {X : Cx} {f g sf : Addr} {pins : List (Addr × Obj)} {σ : L2.St} {H : Hp} {k : Nat} {fd : FuncData} {ps : List Str} {sp : Sp} {kd : V → PyData} {xs : List V}
/-- what the key's def promises of the items -/
def KeyOk (X : Cx) (sf : Addr) (sp : Sp) (H : Hp) (xs : List V) (kd : V → PyData) : Prop :=
  ∀ (H' : Hp) (Q : VK), Same H H' → ∀ x ∈ xs, (∀ v H2, Same H' H2 → Dp X.K H2 v (kd x) → Q v H2) → sp [.ref sf, x] H' Q E0
theorem each_get {α β : Type} {R : α → β → Prop} : ∀ {as : List α} {bs : List β} {i : Nat} {a : α}, PySem.W.EachIs R as bs → as[i]? = some a → ∃ b, bs[i]? = some b ∧ R a b
  | _, _, _, _, .nil, e => by simp at e
  | _, _, 0, _, .cons r _, e => by
    simp at e
    subst e
    exact ⟨_, rfl, r⟩
  | _, _, i + 1, a, .cons _ t, e => by
    obtain ⟨b, h1, h2⟩ := each_get (i := i) (a := a) t (by simpa using e)
    exact ⟨b, by simpa using h1, h2⟩
theorem each_more {α β : Type} {R : α → β → Prop} : ∀ {as : List α} {bs : List β} {a : α} {b : β}, PySem.W.EachIs R as bs → R a b → PySem.W.EachIs R (as ++ [a]) (bs ++ [b])
  | _, _, _, _, .nil, r => .cons r .nil
  | _, _, _, _, .cons q t, r => .cons q (each_more t r)
theorem each_mono {α β : Type} {R S : α → β → Prop} (h : ∀ a b, R a b → S a b) : ∀ {as : List α} {bs : List β}, PySem.W.EachIs R as bs → PySem.W.EachIs S as bs
  | _, _, .nil => .nil
  | _, _, .cons r t => .cons (h _ _ r) (each_mono h t)
theorem each_len {α β : Type} {R : α → β → Prop} : ∀ {as : List α} {bs : List β}, PySem.W.EachIs R as bs → as.length = bs.length
  | _, _, .nil => rfl
  | _, _, .cons _ t => congrArg Nat.succ (each_len t)
theorem keyI_rest {A : Around} {E : Value → Shared → Prop} {s : Shared} {a kS : Addr} {e1 : Nat} {vs : List Value} {P : PySem.Fin → Shared → Prop} (fr : A.frames = some X.stack) (room : Room k A)
    (F : FnOk X.prog X.w X.K X.mg X.base CX0 k g fd ps sp) (eq_ : H f = some (.met g sf)) (bd : Binds X.K fd ps []) (ok : KeyOk X sf sp H xs kd) (I : Inv X pins σ H s) (fa : FpOk X pins H a) (fk : FpOk X pins H kS) (hka : kS ≠ a) (rv : Vals xs vs)
    (nk : s.heap.get? kS = some (seqObj "list" #[] 0)) (na : s.heap.get? a = some (seqObj "list" #[] e1)) (hz : vs.length ≤ sizeLine)
    (hal : PySem.W.AllAlike (xs.map kd)) (hsk : PySem.W.Sortable (xs.map kd)) (hu : ∀ d, d ∈ xs.map kd → A.units + d.depth < cLine)
    (h : ∀ s' H', Inv X pins σ (upd H' a (.lst (xs.mergeSort (PySem.W.dataLe false kd)))) s' → Same H H' → H' a = none → P (.done (.ret .none)) s') :
    wpAny (model X.prog X.w) A (ksk_rest a (.ref f) false vs.toArray e1 (.ref kS)) P E s := by
  have hlen : xs.length = vs.length := rv.length
  unfold ksk_rest
  refine wpAny_bind (wpAny_rule ?_)
  rw [List.forIn_toArray]
  refine wpAny_bind (ksk_fold (fun i s' => ∃ (H' : Hp) (kA : Array Value) (e : Nat), Inv X pins σ H' s' ∧ Same H H' ∧ H' kS = none ∧ H' a = none ∧ s'.heap.get? kS = some (seqObj "list" kA e) ∧ s'.heap.get? a = some (seqObj "list" #[] e1) ∧
    PySem.W.EachIs (fun v d => ∃ y, RelV y v ∧ Dp X.K H' y d) kA.toList ((xs.map kd).take i)) vs 0 s ⟨H, #[], 0, I, Same.refl H, fk.1, fa.1, nk, na, by rw [List.take_zero]; exact .nil⟩ ?step ?done)
  case step =>
    rintro j u s1 hx ⟨H1, kA, e, I1, sm, hk0, ha0, nk1, na1, hks⟩
    simp only [Nat.zero_add] at hks ⊢
    obtain ⟨x, hxj, rx⟩ := each_get (vals_each rv) hx
    have hxm : x ∈ xs := List.mem_of_getElem? hxj
    have fk1 := fp_on fk hk0
    have fa1 := fp_on fa ha0
    have hsp := ok H1 (fun v H2 => Same H1 H2 ∧ Dp X.K H2 v (kd x)) sm x hxm fun v H2 s2 d2 => ⟨s2, d2⟩
    have en : Env0 X.prog X.w X.K X.mg X.base A X.stack s1 H1 := by
      have z := I1.env0
      exact ⟨fr, z.mod, z.bs, z.bsz, z.funs, z.frf, z.hok, z.bare⟩
    have hl1 : [V.ref sf, x].length = ps.length := F.len _ _ _ _ hsp
    have b1 := bd s1 [.ref sf, u] I1.kIn (by simpa using hl1)
    rw [List.append_nil] at b1
    have hkz : kA.size ≤ vs.length := by
      have z := each_len hks
      rw [Array.length_toList, List.length_take, List.length_map] at z
      omega
    refine wpAny_bind (wpAny_attempt (wpAny_call (codeAny_mono (call_met I1 (sm _ _ eq_) (F.run A X.stack s1 H1 ⟨[.ref sf, u], []⟩ [.ref sf, u] [.ref sf, x] _ E0 room en b1 (.cons rfl (.cons rx .nil)) hsp)) fun r s2 hr => ?_)))
    match r, hr with
    | .error z, hr => exact False.elim hr
    | .ok .next, hr => exact False.elim hr
    | .ok .brk, hr => exact False.elim hr
    | .ok .cont, hr => exact False.elim hr
    | .ok (.ret v), hr =>
      obtain ⟨y, H2, os, bare, un, hok, ry, sm2, dp2⟩ := hr
      obtain ⟨h2, g2, d2, t2, os2⟩ := s2
      obtain rfl : os2 = s1.os := os
      have I2 : Inv X pins σ H2 _ := I1.call (h' := h2) (g' := g2) (d' := d2) (t' := t2) (ch := []) un hok bare fun b z => absurd z List.not_mem_nil
      have nk2 : h2.get? kS = some (seqObj "list" kA e) := un.keep _ _ nk1 hk0 (fp_stack I1 fk1) List.not_mem_nil
      have na2 : h2.get? a = some (seqObj "list" #[] e1) := un.keep _ _ na1 ha0 (fp_stack I1 fa1) List.not_mem_nil
      have hk2 : H2 kS = none := un.free _ _ nk1 hk0 List.not_mem_nil
      have ha2 : H2 a = none := un.free _ _ na1 ha0 List.not_mem_nil
      have sb := Heap.SameBut.update h2 kS (Obj.mapSeq (·.push v))
      obtain ⟨c2, hc2⟩ : ∃ c2, (h2.update kS (Obj.mapSeq (·.push v))).get? kS = some (seqObj "list" (kA.push v) c2) := ⟨_, get?_update_seq nk2 (·.push v)⟩
      refine wpAny_bind (listUpdate_at (s := ⟨h2, g2, d2, t2, s1.os⟩) nk2 rfl ?_ (Nat.le_trans hkz hz) (by rw [Array.size_push]; omega))
      refine wpAny_pure ⟨rfl, H2, kA.push v, c2, ?_, sm.trans sm2, hk2, ha2, hc2, (sb.2 a hka.symm).trans na2, ?_⟩
      · refine Inv.turnedL (ch := [kS]) (t' := t2) I2 (fun b o hb q => (sb.2 b fun z => hb (by simp [z])).trans q) fun b hb => ?_
        rw [List.mem_singleton.mp hb]
        exact fp_on fk1 hk2
      · have ek : (xs.map kd).take (j + 1) = (xs.map kd).take j ++ [kd x] := by
          rw [List.take_add_one, List.getElem?_map, hxj]
          rfl
        rw [ek, Array.toList_push]
        refine each_more (each_mono (fun w d q => ?_) hks) ⟨y, ry, dp2⟩
        obtain ⟨z, rz, dz⟩ := q
        exact ⟨z, rz, dp_same sm2 _ _ dz⟩
  case done =>
    rintro s1 ⟨H1, kA, e, I1, sm, hk0, ha0, nk1, na1, hks⟩
    rw [Nat.zero_add, List.take_of_length_le (by rw [List.length_map]; omega)] at hks
    have hk' : PySem.W.EachIs (fun v d => ∃ as, Reads s1.heap v d as) kA.toList (xs.map kd) := each_mono (fun v d q => by
      obtain ⟨y, ry, dy⟩ := q
      exact Dp.reads I1 d y v dy ry) hks
    have hsz : kA.size = vs.length := by
      have z := each_len hk'
      rw [Array.length_toList, List.length_map] at z
      omega
    -- all but the list of the keys
    let Hk : Hp := upd (fun _ => none) kS (.lst [])
    have hidK : (hidT s1.heap Hk).get? kS = none := by
      cases q : (hidT s1.heap Hk).get? kS with
      | none => rfl
      | some o =>
        have z := (of_hidT q).2
        rw [show Hk kS = some (.lst []) from upd_same] at z
        cases z
    refine wpAny_bind (listItems_at nk1 rfl ?_)
    refine PySem.W.keyH_end (κ := PySem.W.dataKind s1.heap (xs.map kd)) (h₁ := hidT s1.heap Hk) (fun b o _ q => (of_hidT q).1) hidK nk1 na1 hka (PySem.W.SortsAt.data hk' hal hsk hu) hsz hz fun h3 tk3 c k3 n3 => ?_
    have each := PySem.W.keyedOut_each (rev := false) (out := PySem.W.sortVals (PySem.W.dataKind s1.heap (xs.map kd)) false kA.toList vs) kd (vs := vs) ⟨s1.heap, kA.toList, hal, rfl, hk'⟩ (vals_each rv)
    have I3 := Inv.take (t' := tk3) (kS := kS) (h' := h3) (c := c) I1 (fp_on fa ha0) (fp_on fk hk0) (fun b o hb hb2 q => k3 b o hb (hidT_get q (by rw [show Hk b = none from by show upd _ _ _ _ = _; rw [upd_ne hb2]]))) ?_ (each_vals each) n3
    · exact h _ H1 I3 sm ha0
    · rw [List.length_mergeSort]
      omega
end
section
variable {X : Cx} {k : Nat} {g sf : Addr} {fd : FuncData} {ps : List Str} {sp : Sp}
def rSortM (X : Cx) (g : Addr) (sp : Sp) : List V → List V → Hp → VK → Prop := fun vs zs H Q => ∃ (l f sf : Addr) (xs : List V) (kd : V → PyData), vs = [.ref l] ∧ zs = [.ref f] ∧ H f = some (.met g sf) ∧ (SqL X.K H l xs ∨ SqT X.K H l xs) ∧
  KeyOk X sf sp H xs kd ∧ PySem.W.AllAlike (xs.map kd) ∧ PySem.W.Sortable (xs.map kd) ∧ (∀ x ∈ xs, (kd x).depth ≤ 50) ∧ ∀ H' a, Same H H' → H' a = none → Q (.ref a) (upd H' a (.lst (xs.mergeSort (PySem.W.dataLe false kd))))
theorem cr_sortM (room : Room (k + 2) X.A) (F : FnOk X.prog X.w X.K X.mg X.base CX0 k g fd ps sp) (bd : Binds X.K fd ps []) : CallRK X (.builtin "sorted") [Str.ofString "key"] (rSortM X g sp) := by
  intro pins s σ H vs zs us ws Q I rv rz h
  obtain ⟨l, f, sf, xs, kd, rfl, rfl, em, hq, ok, hal, hsk, hdp, q⟩ := h
  obtain ⟨u, rfl, ru⟩ := vals1 rv
  obtain ⟨w, rfl, rw'⟩ := vals1 rz
  cases ru
  cases rw'
  obtain ⟨T, o, its, n, hT, ho, hc, hd, rx, hz⟩ : ∃ (T : String) (o : Obj) (its : List Value) (n : Nat), (T = "list" ∨ T = "tuple") ∧ s.heap.get? l = some o ∧ o.cls = .type T ∧ o.data = .seq its.toArray n ∧ Vals xs its ∧ its.length ≤ sizeLine := by
    rcases hq with hq | hq
    · obtain ⟨its, r, ⟨o, n, ho, hc, _, hd⟩, hz⟩ := I.list hq
      exact ⟨"list", o, its, n, .inl rfl, ho, hc, hd, r, by rw [← r.length]; exact hz⟩
    · obtain ⟨its, r, ⟨o, ho, hc, n, hd⟩, hz⟩ := I.tuple hq
      exact ⟨"tuple", o, its, n, .inr rfl, ho, hc, hd, r, by rw [← r.length]; exact hz⟩
  have hu := room.units
  refine sorted_seq ho hT hc hd hz (ksk_s1 _ _) (fun _ => ksk_l1 _ _) fun E' => ?_
  show wpAny _ _ (Builtin.«list.sort» ⟨[.ref (s.heap.objs.size + 1)], [(Str.ofString "key", .ref f)]⟩) _ _ _
  rw [ksk_t1]
  unfold ksk_tree
  have na0 := PySem.W.copyHeap_at s.heap its
  obtain ⟨e1, na1⟩ : ∃ e1, ((PySem.W.copyHeap s.heap its).update (s.heap.objs.size + 1) (Obj.mapSeq fun _ => (#[] : Array Value))).get? (s.heap.objs.size + 1) = some (seqObj "list" #[] e1) := ⟨_, get?_update_seq na0 fun _ => #[]⟩
  have sb := Heap.SameBut.update (PySem.W.copyHeap s.heap its) (s.heap.objs.size + 1) (Obj.mapSeq fun _ => (#[] : Array Value))
  refine wpAny_bind (listItems_at na0 rfl ?_)
  refine wpAny_bind (listUpdate_at na0 rfl ?_ (by rw [List.size_toArray]; exact hz) (Nat.zero_le _))
  refine wpAny_bind (seqEpoch_at na1 rfl ?_)
  refine wpAny_bind (wpAny_newTuple ?_ (by show its.length ≤ _; exact hz))
  refine wpAny_bind (wpAny_newList ?_ (Nat.zero_le _))
  refine wpAny_holding ?_
  have old : ∀ b o, s.heap.get? b = some o → ((((PySem.W.copyHeap s.heap its).update (s.heap.objs.size + 1) (Obj.mapSeq fun _ => (#[] : Array Value))).push (seqObj "tuple" its.toArray 0)).push (seqObj "list" #[] 0)).get? b = some o := fun b o e =>
    Heap.get?_push_of_some _ (Heap.get?_push_of_some _ ((sb.2 b (Nat.ne_of_lt (Nat.lt_succ_of_lt (Heap.lt_size e)))).trans (PySem.W.copyHeap_old e)))
  have big : s.heap.objs.size + 1 < (PySem.W.copyHeap s.heap its).objs.size := Heap.lt_size na0
  have hkS : (((PySem.W.copyHeap s.heap its).update (s.heap.objs.size + 1) (Obj.mapSeq fun _ => (#[] : Array Value))).push (seqObj "tuple" its.toArray 0)).objs.size = (PySem.W.copyHeap s.heap its).objs.size + 1 := by rw [size_push', Heap.size_update]
  have ltS : s.heap.objs.size + 1 < (((PySem.W.copyHeap s.heap its).update (s.heap.objs.size + 1) (Obj.mapSeq fun _ => (#[] : Array Value))).push (seqObj "tuple" its.toArray 0)).objs.size := by
    rw [hkS]
    omega
  have le1 : s.heap.objs.size ≤ s.heap.objs.size + 1 := Nat.le_succ _
  have le2 : s.heap.objs.size ≤ (((PySem.W.copyHeap s.heap its).update (s.heap.objs.size + 1) (Obj.mapSeq fun _ => (#[] : Array Value))).push (seqObj "tuple" its.toArray 0)).objs.size := by rw [hkS]; omega
  refine keyI_rest (A := X.A.in1.in1) (E := E') (by show X.A.frames = some X.stack; exact I.ok.frames) room.in1.in1 F em bd ok (I.kept (t' := s.toks) old) (I.fpOk le1 (I.hok.fresh le1)) (I.fpOk le2 (I.hok.fresh le2)) (Nat.ne_of_gt ltS) rx
    (Heap.get?_push_size _ rfl) (Heap.get?_push_of_some _ (Heap.get?_push_of_some _ na1)) hz hal hsk (fun d hd' => ?_) fun s' H' I' sm ha => ⟨rfl, ?_⟩
  · obtain ⟨x, hx, rfl⟩ := List.mem_map.mp hd'
    have := hdp x hx
    show X.A.units + 1 + 1 + (kd x).depth < cLine
    omega
  · exact ⟨.ref _, _, I', rfl, q H' _ sm ha⟩
end
section
variable {X : Cx} {e : Expr} {ta : TE} {C g : Addr} {m : Str} {pos : Pos}
/-- o.m as a value -/
def tBound (C : Addr) (m : Str) (g : Addr) (ta : TE) : TE := fun σ H Q => ta σ H fun x H1 => ∃ a dx fs, x = .ref a ∧ H1 a = some (.ins C dx fs) ∧ fs.lookup m = none ∧ ∀ q, H1 q = none → Q (.ref q) (upd H1 q (.met g a))
theorem pe_bound (he : PE X e ta) (c : Cls X.K C) (k : BMeth X.K C m g) (hb : attributeBase e m X.env (eval e X.env) = eval e X.env) : PE X (.Attribute e m pos) (tBound C m g ta) := by
  refine ⟨fun pins s σ H Q I h => ?_⟩
  refine attr_of hb (thn (he.run pins s σ H _ I h) fun u s1 ⟨x, H1, I1, rx, a, dx, fs, ex, ea, l, q⟩ => ?_)
  subst ex
  exact op_getbound I1 ea c k l rx q
end
end Xsm
set_option Elab.async false
set_option linter.all false
set_option maxRecDepth 100000
set_option maxHeartbeats 4000000
set_option pp.maxSteps 400
set_option pp.deepTerms false
/-! sorted of data of any one kind: of a list, of a tuple, of a dict's key tuples -/
namespace Xsd
open PySem PySem.Spec PyProof.Rows L2 Xsm
theorem each_pairs {h : Heap} {R : V → Value → Prop} {xs : List V} {vs : List Value} (r : Vals xs vs) : PySem.W.EachIs (fun v x => RelV x v) vs xs := vals_each r
theorem each_fst {α : Type} (f : α → V) : ∀ {bs : List α} {vs : List Value}, Vals (bs.map f) vs → PySem.W.EachIs (fun v b => RelV (f b) v) vs bs
  | [], _, h => by cases h; exact .nil
  | b :: bs, _, h => by cases h with | cons r t => exact .cons r (each_fst f t)
theorem fst_each {α : Type} (f : α → V) : ∀ {bs : List α} {vs : List Value}, PySem.W.EachIs (fun v b => RelV (f b) v) vs bs → Vals (bs.map f) vs
  | _, _, .nil => .nil
  | _, _, .cons r t => .cons r (fst_each f t)
theorem each_and {α : Type} {R S : Value → α → Prop} : ∀ {bs : List α} {vs : List Value}, PySem.W.EachIs R vs bs → (∀ v b, b ∈ bs → R v b → S v b) → PySem.W.EachIs S vs bs
  | _, _, .nil, _ => .nil
  | _, _, .cons r t, h => .cons (h _ _ List.mem_cons_self r) (each_and t fun v b m q => h v b (List.mem_cons_of_mem _ m) q)
section
variable {X : Cx} {k : Nat}
/-- what a pair's second says of its first -/
abbrev Pd := V × PyData
def rSortD (K : PySem.W.Frag) : List V → Hp → VK → Prop := fun vs H Q => ∃ (l : Addr) (bs : List Pd), vs = [.ref l] ∧ (SqL K H l (bs.map (·.1)) ∨ SqT K H l (bs.map (·.1))) ∧ (∀ b ∈ bs, Dp K H b.1 b.2) ∧ PySem.W.AllAlike (bs.map (·.2)) ∧ PySem.W.Sortable (bs.map (·.2)) ∧ (∀ b ∈ bs, b.2.depth ≤ 50) ∧
  ∀ a, H a = none → Q (.ref a) (upd H a (.lst ((bs.mergeSort (PySem.W.dataLe false fun b : Pd => b.2)).map (·.1))))
theorem cr_sortD (room : Room (k + 2) X.A) : CallR X (.builtin "sorted") (rSortD X.K) := by
  intro pins s σ H vs us Q I r h
  obtain ⟨l, bs, rfl, hq, hdp, hal, hsk, hde, q⟩ := h
  obtain ⟨u, rfl, ru⟩ := vals1 r
  cases ru
  obtain ⟨T, o, its, n, hT, ho, hc, hd, rx, hz⟩ : ∃ (T : String) (o : Obj) (its : List Value) (n : Nat), (T = "list" ∨ T = "tuple") ∧ s.heap.get? l = some o ∧ o.cls = .type T ∧ o.data = .seq its.toArray n ∧ Vals (bs.map (·.1)) its ∧ its.length ≤ sizeLine := by
    rcases hq with hq | hq
    · obtain ⟨its, r, ⟨o, n, ho, hc, _, hd⟩, hz⟩ := I.list hq
      exact ⟨"list", o, its, n, .inl rfl, ho, hc, hd, r, by rw [← r.length]; exact hz⟩
    · obtain ⟨its, r, ⟨o, ho, hc, n, hd⟩, hz⟩ := I.tuple hq
      exact ⟨"tuple", o, its, n, .inr rfl, ho, hc, hd, r, by rw [← r.length]; exact hz⟩
  have hu := room.units
  have old : ∀ b o, s.heap.get? b = some o → (PySem.W.sortingHeap (PySem.W.copyHeap s.heap its) (s.heap.objs.size + 1) its).get? b = some o := fun b o e => PySem.W.sorting_copy_old e
  have I2 := I.kept (t' := s.toks) old
  have er : PySem.W.EachIs (fun v b => ∃ as, Reads (PySem.W.sortingHeap (PySem.W.copyHeap s.heap its) (s.heap.objs.size + 1) its) v b.2 as) its bs := each_and (each_fst (·.1) rx) fun v b m rb => Dp.reads I2 b.2 b.1 v (hdp b m) rb
  refine sorted_seq ho hT hc hd hz (args_sorted1 _) (fun _ => args_list_sort _) fun E' => ?_
  refine PySem.W.list_sort_vals (s := { s with heap := PySem.W.copyHeap s.heap its }) (PySem.W.copyHeap_at s.heap its) (PySem.W.SortsAt.data (ds := bs.map (·.2)) (PySem.W.each_map (R := fun v d => ∃ as, Reads (PySem.W.sortingHeap (PySem.W.copyHeap s.heap its) (s.heap.objs.size + 1) its) v d as) (fun b : Pd => b.2) er) hal hsk fun d hd' => ?_) hz ⟨rfl, ?_⟩
  · obtain ⟨x, hx, rfl⟩ := List.mem_map.mp hd'
    have := hde x hx
    show X.A.units + 1 + 1 + x.2.depth < cLine
    omega
  have out := PySem.W.sortVals_data (enc := fun b : Pd => b.2) false (each_fst (·.1) rx) er hal
  obtain ⟨ep, hat⟩ := PyProof.Rows.sortedAll_at s.heap its (PySem.W.sortVals (PySem.W.dataKind (PySem.W.sortingHeap (PySem.W.copyHeap s.heap its) (s.heap.objs.size + 1) its) (bs.map (·.2))) false its its).toArray
  have le1 : s.heap.objs.size ≤ s.heap.objs.size + 1 := Nat.le_succ _
  have lz : ((bs.mergeSort (PySem.W.dataLe false fun b : Pd => b.2)).map (·.1)).length ≤ sizeLine := by
    rw [List.length_map, List.length_mergeSort]
    have := rx.length
    rw [List.length_map] at this
    omega
  exact ⟨.ref _, _, I.laid (o := .lst ((bs.mergeSort (PySem.W.dataLe false fun b : Pd => b.2)).map fun b : Pd => b.1)) (t' := s.toks) (fun b o e => PyProof.Rows.sortedAll_old e) le1 ⟨lz, _, ep, fst_each (fun b : Pd => b.1) out, hat⟩, rfl, q _ (I.hok.fresh le1)⟩
/-! ### of a dict's key tuples -/
def kyD : Key → PyData
  | .inl i => .int i
  | .inr x => .str x
def kyT (k : List Key) : PyData := .tuple (k.map kyD)
theorem dp_key {K : PySem.W.Frag} {H : Hp} : ∀ k : List Key, DpAll K H (k.map kV) (k.map kyD)
  | [] => .nil
  | .inl i :: r => .cons (.int i) (dp_key r)
  | .inr x :: r => .cons (.str x) (dp_key r)
/-- sorted of what a dict gives -/
theorem sorted_src {prog : Program} {w : World} {A : Around} {E : Value → Shared → Prop} {s : Shared} {T : String} {r d : Addr} {n : Nat} {P : Nat → Value → Prop} {OK : Heap → Prop} {Q : Value → Shared → Prop}
    (K : PySem.W.KdlSrc prog w T r d n P OK) (hh : A.handled = none) (hok : OK s.heap) (hn : n ≤ sizeLine)
    (body : ∀ (h' : Heap) (tk : Nat) (acc : List Value), (∀ b o, s.heap.get? b = some o → h'.get? b = some o) → acc.length = n → (∀ j v, acc[j]? = some v → P j v) → ∀ E' : Value → Shared → Prop,
      wpAny (model prog w) A.in1.in1 (Builtin.«list.sort» ⟨[.ref h'.objs.size], []⟩) (fun f s' => f = .done (.ret .none) ∧ Q (.ref h'.objs.size) s') E' { s with heap := h'.push (seqObj "list" acc.toArray 0), toks := tk }) :
    wpAny (model prog w) A (call (.builtin "sorted") [.ref r]) Q E s := by
  refine PySem.Calls.call_function_entry kind_sorted plain_sorted entry_sorted (args_sorted1 _) ?_
  unfold Builtin.«sorted»
  refine wpAny_bind (m := checkCount "sorted" 1 1 _) (wpAny_pure ?_)
  refine wpAny_bind (PySem.W.kdu_collect (A := A.in1) K hh hok hn fun h' tk acc hk it => ?_)
  have la : acc.toList.length = n := by rw [Array.length_toList]; exact it.1
  refine wpAny_bind (wpAny_newList ?_ (by rw [la]; exact hn))
  have at_ : (h'.push (seqObj "list" acc.toList.toArray 0)).get? h'.objs.size = some (seqObj "list" acc.toList.toArray 0) := Heap.get?_push_size _ rfl
  refine wpAny_bind (wpAny_holding (wpAny_call_entry_kw (kw := []) slot_list_sort ⟨_, at_, rfl⟩ entry_list_sort ?b (args_list_sort _)))
  case b =>
    refine wpAny_mono (body h' tk acc.toList hk la (fun j v e => it.2 j v (by rw [← Array.getElem?_toList]; exact e)) _) (fun f s' hf => ?_) fun _ _ e => e
    obtain ⟨rfl, hq⟩ := hf
    exact ⟨_, rfl, wpAny_pure ⟨_, rfl, hq⟩⟩
/-- what is tracked is there -/
theorem is_there {P : Program} {w : World} {H : Hp} {h : Heap} {a : Addr} : ∀ {u : HO}, ObjOk P w H h a u → ∃ o, h.get? a = some o
  | .lst _, y => (fun ⟨_, _, _, _, e⟩ => ⟨_, e⟩) y
  | .tup _, y => (fun ⟨_, _, _, o, e, _⟩ => ⟨o, e⟩) y
  | .dK _, y => (fun ⟨_, _, _, _, o, _, _, e, _⟩ => ⟨o, e⟩) y
  | .dT _, y => (fun ⟨_, _, _, _, o, _, _, e, _⟩ => ⟨o, e⟩) y
  | .set _ _, y => (fun ⟨o, _, _, _, e, _⟩ => ⟨o, e⟩) y
  | .ins _ _ _, y => (fun ⟨_, _, _, e, _⟩ => ⟨_, e⟩) y
  | .own _, y => y
  | .xd _, y => (fun ⟨_, ⟨o, _, _, e, _⟩, _⟩ => ⟨o, e⟩) y
  | .met _ _, y => ⟨_, y⟩
  | .rng _ _, y => (fun ⟨_, _, _, e⟩ => ⟨_, e⟩) y
  | .frz _ _, y => ⟨_, y.1⟩
  | .tbl _, y => ⟨_, y⟩
  | .ext _, y => y.2.1
theorem paired_mem {α β : Type} {F : α → β → Prop} : ∀ {as : List α} {bs : List β}, Paired F as bs → ∀ b ∈ bs, ∃ a ∈ as, F a b
  | _, _, .nil, b, m => by cases m
  | _, _, .cons h t, b, m => by
    rcases List.mem_cons.mp m with rfl | m
    · exact ⟨_, List.mem_cons_self, h⟩
    · obtain ⟨a, ma, f⟩ := paired_mem t b m
      exact ⟨a, List.mem_cons_of_mem _ ma, f⟩
theorem paired_map {α β γ : Type} {F : α → β → Prop} {f : α → γ} {g : β → γ} (h : ∀ a b, F a b → f a = g b) : ∀ {as : List α} {bs : List β}, Paired F as bs → as.map f = bs.map g
  | _, _, .nil => rfl
  | _, _, .cons p t => by rw [List.map_cons, List.map_cons, h _ _ p, paired_map h t]
abbrev Kb := List Key × Addr
def rSortK : List V → Hp → VK → Prop := fun vs H Q => ∃ (d : Addr) (kvs : List (List Key × V)), vs = [.ref d] ∧ Rd H d (.dT kvs) ∧ PySem.W.AllAlike (kvs.map fun p => kyT p.1) ∧ PySem.W.Sortable (kvs.map fun p => kyT p.1) ∧ (∀ p ∈ kvs, (kyT p.1).depth ≤ 50) ∧
  ∀ (a : Addr) (bs : List Kb), H a = none → (∀ b ∈ bs, H b.2 = some (.tup (b.1.map kV))) → bs.map (·.1) = (kvs.map (·.1)).mergeSort (PySem.W.dataLe false kyT) → Q (.ref a) (upd H a (.lst (bs.map fun b => .ref b.2)))
theorem cr_sortK (hc : X.calm = true) (room : Room (k + 2) X.A) : CallR X (.builtin "sorted") rSortK := by
  intro pins s σ H vs us Q I r h
  obtain ⟨d, kvs, rfl, hd, hal, hsk, hde, q⟩ := h
  obtain ⟨u, rfl, ru⟩ := vals1 r
  cases ru
  have hu := room.units
  obtain ⟨z, hs, ks, pr, o, es, ep, ho, hx, hdt, he, hn⟩ := (show ObjOk X.prog X.w H s.heap d (.dT kvs) from hd.ok I.hok)
  have l1 : es.size = ks.length := size_of_entries he
  have l2 : kvs.length = ks.length := Paired.length pr
  obtain ⟨b0, eb0⟩ : ∃ b0 : List Kb, b0 = ks.map fun x => (x.1, x.2.1) := ⟨_, rfl⟩
  have lb : b0.length = ks.length := by rw [eb0, List.length_map]
  have ek : kvs.map (·.1) = b0.map (·.1) := by
    rw [eb0, List.map_map]
    exact paired_map (fun a b f => f.1) pr
  have eky : (kvs.map fun p => kyT p.1) = b0.map fun b => kyT b.1 := by
    have := congrArg (List.map kyT) ek
    rw [List.map_map, List.map_map] at this
    exact this
  have hb0 : ∀ b ∈ b0, H b.2 = some (.tup (b.1.map kV)) := fun b mb => by
    rw [eb0] at mb
    obtain ⟨x, mx, rfl⟩ := List.mem_map.mp mb
    obtain ⟨p, _, f1, f2, _⟩ := paired_mem pr x mx
    show H x.2.1 = some (.tup (x.1.map kV))
    rw [← f1]
    exact f2
  refine sorted_src (kdl_raw hs hx hdt) (I.ok.hd hc) ho (by omega) fun h' tk acc old la hP E' => ?_
  have rx : Vals (b0.map fun b => V.ref b.2) acc := by
    have e : acc = (b0.map fun b : Kb => b.2).map Value.ref := by
      refine List.ext_getElem? fun j => ?_
      by_cases hj : j < acc.length
      · have hj2 : j < ks.length := by omega
        obtain ⟨en, h1, h2⟩ := hP j acc[j] (List.getElem?_eq_getElem hj)
        have h3 := entry_at he j
        rw [h1, List.getElem?_eq_getElem hj2] at h3
        rw [List.getElem?_eq_getElem hj, h2, Option.some.inj h3, eb0, List.map_map, List.getElem?_map, List.getElem?_map, List.getElem?_eq_getElem hj2]
        rfl
      · rw [List.getElem?_eq_none (by omega), List.getElem?_eq_none (by rw [List.length_map, List.length_map]; omega)]
    rw [e, show (b0.map fun b : Kb => V.ref b.2) = (b0.map fun b : Kb => b.2).map V.ref by rw [List.map_map]; rfl]
    exact vals_refs _
  have at_ : (h'.push (seqObj "list" acc.toArray 0)).get? h'.objs.size = some (seqObj "list" acc.toArray 0) := Heap.get?_push_size _ rfl
  have old1 : ∀ b o, s.heap.get? b = some o → (h'.push (seqObj "list" acc.toArray 0)).get? b = some o := fun b o e => Heap.get?_push_of_some _ (old b o e)
  have old2 : ∀ b o, s.heap.get? b = some o → (PySem.W.sortingHeap (h'.push (seqObj "list" acc.toArray 0)) h'.objs.size acc).get? b = some o := fun b o e => PySem.W.sortingHeap_old (Nat.ne_of_lt (Heap.lt_size (old b o e))) (old1 b o e)
  have I2 := I.kept (t' := s.toks) old2
  have dp0 : ∀ b ∈ b0, Dp X.K H (.ref b.2) (kyT b.1) := fun b mb => .tup (SqT.of (hb0 b mb)) (dp_key b.1)
  have er : PySem.W.EachIs (fun v (b : Kb) => ∃ as, Reads (PySem.W.sortingHeap (h'.push (seqObj "list" acc.toArray 0)) h'.objs.size acc) v (kyT b.1) as) acc b0 := each_and (each_fst (fun b : Kb => V.ref b.2) rx) fun v b m rb => Dp.reads I2 (kyT b.1) (.ref b.2) v (dp0 b m) rb
  rw [eky] at hal hsk
  have hz : acc.length ≤ sizeLine := by omega
  refine PySem.W.list_sort_vals (s := { s with heap := h'.push (seqObj "list" acc.toArray 0), toks := tk }) at_ (PySem.W.SortsAt.data (ds := b0.map fun b => kyT b.1) (PySem.W.each_map (R := fun v d => ∃ as, Reads (PySem.W.sortingHeap (h'.push (seqObj "list" acc.toArray 0)) h'.objs.size acc) v d as) (fun b : Kb => kyT b.1) er) hal hsk fun d hd' => ?_) hz ⟨rfl, ?_⟩
  · rw [← eky] at hd'
    obtain ⟨x, hx, rfl⟩ := List.mem_map.mp hd'
    have := hde x hx
    show X.A.units + 1 + 1 + (kyT x.1).depth < cLine
    omega
  have out := PySem.W.sortVals_data (enc := fun b : Kb => kyT b.1) false (each_fst (fun b : Kb => V.ref b.2) rx) er hal
  obtain ⟨ep2, hat⟩ := PyProof.Rows.sortedHeap_at (out := (PySem.W.sortVals (PySem.W.dataKind (PySem.W.sortingHeap (h'.push (seqObj "list" acc.toArray 0)) h'.objs.size acc) (b0.map fun b => kyT b.1)) false acc acc).toArray) at_
  have gone : s.heap.get? h'.objs.size = none := by
    cases e' : s.heap.get? h'.objs.size with
    | none => rfl
    | some o' => exact absurd (Heap.lt_size (old _ _ e')) (Nat.lt_irrefl _)
  have free : H h'.objs.size = none := by
    cases e' : H h'.objs.size with
    | none => rfl
    | some u' =>
      obtain ⟨o', e2⟩ := is_there (I.hok _ _ e')
      rw [gone] at e2
      cases e2
  have lz : ((b0.mergeSort (PySem.W.dataLe false fun b : Kb => kyT b.1)).map fun b : Kb => V.ref b.2).length ≤ sizeLine := by
    rw [List.length_map, List.length_mergeSort]
    omega
  refine ⟨.ref _, _, I.laidN (o := .lst ((b0.mergeSort (PySem.W.dataLe false fun b : Kb => kyT b.1)).map fun b : Kb => V.ref b.2)) (t' := tk) (fun b o e => ?_) gone free ⟨lz, _, ep2, fst_each (fun b : Kb => V.ref b.2) out, hat⟩, rfl, q _ _ free (fun b mb => hb0 b (List.mem_mergeSort.mp mb)) ?_⟩
  · have lt := Heap.lt_size (old1 b o e)
    rw [PyProof.Rows.sortedHeap_old (Nat.ne_of_lt (Heap.lt_size (old b o e))) lt]
    exact old1 b o e
  · rw [ek]
    exact List.map_mergeSort fun a _ b _ => rfl
/-! ### in, of a tuple of data -/
def rInTD (K : PySem.W.Frag) : R2 := fun x y H Q => ∃ d ds, Dp K H x d ∧ Dp K H y (.tuple ds) ∧ SeqAt.shaped d = true ∧ SeqAt.shaped (.tuple ds) = true ∧ Q (.bl (ds.any fun z => PyData.eqv z d)) H
theorem op_inTD (hu : X.A.units + 65 < cLine) : OpR X (compareOp .In) (rInTD X.K) := fun pins s σ H x y v u Q I rx ry ⟨d, ds, hd, he, sd, se, q⟩ =>
  let ⟨_, r1⟩ := Dp.reads I d x v hd rx
  let ⟨_, r2⟩ := Dp.reads I (.tuple ds) y u he ry
  SeqAt.in_tuple_reads r2 r1 (SeqAt.canLay_of_shaped se) (SeqAt.canLay_of_shaped sd) (room_in_shaped sd hu) ⟨.bl _, H, I, rfl, q⟩
end
end Xsd
set_option Elab.async false
set_option linter.all false
set_option maxRecDepth 100000
set_option maxHeartbeats 4000000
set_option pp.maxSteps 400
set_option pp.deepTerms false
namespace N44
open PySem PySem.Spec PyProof.Rows L2
open Xk Az Xnp
section
variable {P : Program} {w : World} {K : PySem.W.Frag} {mg : Str → Option Value} {base : Heap}
abbrev N2 := W37.Nm
def key (n : N2) : List Key := [.inr n.1, .inr n.2]
/-- the pairs of a list -/
inductive PrL (H : Hp) : List V → List Pair → Prop
  | nil : PrL H [] []
  | cons {t : Addr} {a b : V} {p : Pair} {vs : List V} {es : List Pair} : H t = some (.tup [a, b]) → W37.NmV H a p.1 → W37.NmV H b p.2 → PrL H vs es → PrL H (.ref t :: vs) (p :: es)
/-- whom each leads to -/
structure Lnk (H0 H : Hp) (d : Addr) (ks : List N2) (es : List Pair) : Prop where
  ex : ∃ kvs : List (List Key × V), Rd H d (.dT kvs) ∧ kvs.map (·.1) = ks.map key ∧ ∀ a ∈ ks, ∃ (L : Addr) (ys : List V), valV kvs (key a) = some (.ref L) ∧ H L = some (.lst ys) ∧ W37.NmL H ys (nb es a) ∧ H0 L = none
theorem rd_same {H H' : Hp} (s : L2.Same H H') {d : Addr} {u : HO} (h : Rd H d u) : Rd H' d u := h.imp (s _ _) fun ⟨o, e⟩ => ⟨o, s _ _ e⟩
theorem rd_get {H : Hp} {a b : Addr} {kvs : List (List Key × V)} {k : List Key} (e : Rd H a (.dT kvs)) (eb : H b = some (.tup (k.map kV))) : DGet H a (.ref b) (valV kvs k) := .inr ⟨kvs, k, b, e, rfl, eb, rfl⟩
theorem key_inj {a b : N2} (h : key a = key b) : a = b := by
  unfold key at h
  simp only [List.cons.injEq, Sum.inr.injEq, and_true] at h
  exact Prod.ext h.1 h.2
def ins (ks : List N2) (a : N2) : List N2 := if a ∈ ks then ks else ks ++ [a]
theorem mem_ins {ks : List N2} {a b : N2} : b ∈ ins ks a ↔ b ∈ ks ∨ b = a := by
  unfold ins
  split
  · rename_i h
    exact ⟨.inl, fun z => z.elim id fun e => e ▸ h⟩
  · rw [List.mem_append, List.mem_singleton]
theorem ins_nd {ks : List N2} {a : N2} (h : ks.Nodup) : (ins ks a).Nodup := by
  unfold ins
  split
  · exact h
  · rename_i n
    rw [List.nodup_append]
    refine ⟨h, by simp, fun x hx y hy => ?_⟩
    rw [List.mem_singleton.mp hy]
    rintro rfl
    exact n hx
theorem keys_put {kvs : List (List Key × V)} {ks : List N2} {a : N2} {v : V} (h : kvs.map (·.1) = ks.map key) : (putK kvs (key a) v).map (·.1) = (ins ks a).map key := by
  have e : (kvs.any fun kv => decide (kv.1 = key a)) = decide (a ∈ ks) := by
    have e0 : (kvs.any fun kv => decide (kv.1 = key a)) = (kvs.map (·.1)).any fun k => decide (k = key a) := by rw [List.any_map]; rfl
    rw [e0, h, List.any_map, Bool.eq_iff_iff, List.any_eq_true, decide_eq_true_eq]
    constructor
    · rintro ⟨b, hb, e⟩
      rw [← key_inj (of_decide_eq_true e)]
      exact hb
    · exact fun m => ⟨a, m, decide_eq_true rfl⟩
  unfold putK ins
  rw [e]
  by_cases m : a ∈ ks
  · rw [decide_eq_true m, if_pos rfl, if_pos m, ← h, List.map_map]
    refine List.map_congr_left fun p _ => ?_
    show (if p.1 = key a then (p.1, v) else p).1 = p.1
    split <;> rfl
  · rw [decide_eq_false m, if_neg (by simp), if_neg m, List.map_append, h, List.map_append]
    rfl
theorem PrL.len {H : Hp} : ∀ {vs : List V} {es : List Pair}, PrL H vs es → vs.length = es.length
  | _, _, .nil => rfl
  | _, _, .cons _ _ _ r => by rw [List.length_cons, List.length_cons, r.len]
theorem PrL.get {H : Hp} : ∀ {vs : List V} {es : List Pair} {i : Nat} {v : V}, PrL H vs es → vs[i]? = some v → ∃ (p : Pair) (t : Addr) (a b : V), es[i]? = some p ∧ v = .ref t ∧ H t = some (.tup [a, b]) ∧ W37.NmV H a p.1 ∧ W37.NmV H b p.2
  | _, _, i, v, .nil, h => by simp at h
  | _, _, 0, v, .cons h1 h2 h3 r, h => by
    cases h
    exact ⟨_, _, _, _, rfl, rfl, h1, h2, h3⟩
  | _, _, i + 1, v, .cons h1 h2 h3 r, h => r.get (by simpa using h)
theorem PrL.tp {H H' : Hp} (s : W37.Tp H H') : ∀ {vs : List V} {es : List Pair}, PrL H vs es → PrL H' vs es
  | _, _, .nil => .nil
  | _, _, .cons h1 h2 h3 r => .cons (s _ _ h1) (h2.tp s) (h3.tp s) (r.tp s)
def spLinked (K : PySem.W.Frag) : Sp := fun vs H Q _ => ∃ (N P : Addr) (xs ps : List V) (es : List Pair), vs = [.ref N, .ref P] ∧ SqL K H N xs ∧ W37.NmL H xs (nodes es) ∧ SqL K H P ps ∧ PrL H ps es ∧ es.length ≤ 100 ∧
  ∀ (d : Addr) (ks : List N2) (lkvs : List (List Key × V)) H', L2.Same H H' → ks.Nodup → (∀ a, a ∈ ks ↔ a ∈ nodes es) → H' d = some (.dT lkvs) → Lnk H H' d ks es → Q (.ref d) H'
theorem nodes_len : ∀ es : List Pair, (nodes es).length = 2 * es.length
  | [] => rfl
  | p :: r => by
    have ih := nodes_len r
    unfold nodes at ih ⊢
    rw [List.flatMap_cons, List.length_append, ih, List.length_cons]
    show 2 + 2 * r.length = 2 * (r.length + 1)
    omega
theorem nd_len {l m : List N2} (h : l.Nodup) (s : ∀ a ∈ l, a ∈ m) : l.length ≤ m.length := by
  induction l generalizing m with
  | nil => exact Nat.zero_le _
  | cons x r ih =>
    have h2 := List.nodup_cons.mp h
    have xm := s x List.mem_cons_self
    have := ih (m := m.erase x) h2.2 fun a ha => by
      refine (List.mem_erase_of_ne fun e => ?_).mpr (s a (List.mem_cons_of_mem _ ha))
      exact h2.1 (e ▸ ha)
    rw [List.length_erase_of_mem xm] at this
    have := List.length_pos_of_mem xm
    rw [List.length_cons]
    omega
theorem ok_linked {f : Addr} {fd : FuncData} (D : Df K mg "linked" ["nodes", "pairs"] sLinked f fd) (T : Txt K mg) : FnOk P w K mg base CX0 1 f fd ["nodes", "pairs"] (spLinked K) := by
  refine D.fn.ok scLinked (fun vs H Q E h => ?_) (fun cdv A outer s H vs Q E hr h => ?_)
  · obtain ⟨N, P0, xs, ps, es, rfl, eN, nN, eP, pP, l100, q⟩ := h
    rfl
  · obtain ⟨N, P0, xs, ps, es, rfl, eN, nN, eP, pP, l100, q⟩ := h
    refine ⟨_, (pss_cons (Xd1.ps_setDc1 (i := 2) (own := [("node", 5)]) (g := gName 5) (tt := tYes) (tk := tVar 5) (ty := tLst tNil) (.dT []) (by simp) hr.units0 (by rfl) scLinked.nd rfl rfl (Xd1.sw_dc rfl rfl rfl (by decide +kernel)) (pi_list (pv 0)) (blkOk_by (own := [("node", 5)]) (N := ["nodes", "pairs", "links", "one", "other", "node"]) (sc := defScope sLinked) (by decide +kernel)) (fun _ _ _ _ _ => pg_name (i := 5) scLinked.nd rfl (.inl rfl)) (fun _ _ _ _ _ => pts_nil) (fun _ _ _ _ _ => pv 5) (fun _ _ _ _ _ => pe_lst pa_nil))
      (pss_cons (ps_for PassesOwn.never rfl (pi_list (pv 1)) (pg_tup (by rfl) (pgs_cons (pg_name (i := 3) scLinked.nd rfl (.inl rfl)) (pgs_cons (pg_name (i := 4) scLinked.nd rfl (.inl rfl)) pgs_nil))) (pss_cons (ps_expr (pe_bm PySem.F.plainAttrs_list PySem.F.slot_list_append PySem.F.type_list_append mt_append (pe_dget (hu_of hr) (pv 2) (pv 3) (fun _ _ => rfl)) (pa_cons (pv 4) pa_nil)))
      (pss_one (ps_expr (pe_bm PySem.F.plainAttrs_list PySem.F.slot_list_append PySem.F.type_list_append mt_append (pe_dget (hu_of hr) (pv 2) (pv 4) (fun _ _ => rfl)) (pa_cons (pv 3) pa_nil))))))
      (pss_one (ps_ret (pv 2))))), ?_⟩
    have nlen := nodes_len es
    refine ⟨_, rfl, N, rfl, ⟨_, eN⟩, fun D nD => ?_⟩
    refine Xdc.goes (g := gName 5) (tt := tYes) (B := fun N' σ H => tVar 5 σ H fun y H7 => tLst tNil σ H7 fun z H8 => ∃ H9, DPut H8 D y z H9 ∧ N' H9) (walk_list (K := K) (a := N) (xs := xs)) (fun i Hi => L2.Same H Hi ∧ ∃ (ks : List N2) (kvs : List (List Key × V)) (ad : N2 → Addr), Hi D = some (.dT kvs) ∧ kvs.map (·.1) = ks.map key ∧ ks.Nodup ∧ (∀ a, a ∈ ks ↔ a ∈ (nodes es).take i) ∧
      (∀ a ∈ ks, valV kvs (key a) = some (.ref (ad a)) ∧ Hi (ad a) = some (.lst []) ∧ H (ad a) = none) ∧ (∀ a ∈ ks, ∀ b ∈ ks, ad a = ad b → a = b)) ⟨same_upd nD, [], [], fun _ => 0, upd_same, rfl, List.nodup_nil, by simp, by simp, by simp⟩ (fun i Hi _ z => z.1.seq eN) ?_ ?_
    · rintro i x Hi H' il ⟨sm, ks, kvs, ad, eD, ek, nd, mem, all, inj⟩ ⟨rfl, hx⟩
      obtain ⟨n, en, t, rfl, et⟩ := nN.get hx
      have et := sm _ _ et
      refine ⟨rfl, ?_⟩
      unfold tYes
      refine iteT ⟨_, rfl, (by show 0 ≤ sizeLine; decide), fun L nL => ?_⟩
      have sL := same_upd nL (o := .lst [])
      have eL : (L2.upd H' L (.lst [])) L = some (.lst []) := upd_same
      have eD2 := sL _ _ eD
      have et2 := sL _ _ et
      have DL : D ≠ L := ne_of_none eD nL
      have HL : H L = none := by
        cases e : H L with
        | none => rfl
        | some o => rw [sm _ _ e] at nL; cases nL
      have lk : kvs.length ≤ 200 := by
        have h1 := congrArg List.length ek
        rw [List.length_map, List.length_map] at h1
        have h2 := nd_len nd (m := nodes es) fun a ha => List.mem_of_mem_take ((mem a).mp ha)
        omega
      have il2 := (List.getElem?_eq_some_iff.mp en).1
      refine ⟨_, DPut.t eD2 (show (L2.upd H' L (.lst [])) t = some (.tup ((key n).map kV)) from et2) (Nat.lt_of_le_of_lt lk (by decide)), fun b o e => ?_, ins ks n, putK kvs (key n) (.ref L), fun a => if a = n then L else ad a, upd_same, keys_put ek, ins_nd nd, fun a => ?_, fun a ha => ?_, fun a ha b hb e => ?_⟩
      · rw [upd_ne (ne_of_none e nD)]
        exact sL _ _ (sm _ _ e)
      · rw [mem_ins, mem, List.take_add_one, en, List.mem_append]
        simp
      · rw [valV_put]
        by_cases c : a = n
        · subst c
          dsimp only
          rw [if_pos rfl, if_pos rfl]
          refine ⟨rfl, ?_, HL⟩
          rw [upd_ne (Ne.symm DL)]
          exact eL
        · dsimp only
          rw [if_neg (fun z => c (key_inj z)), if_neg c]
          obtain ⟨a1, a2, a3⟩ := all a ((mem_ins.mp ha).resolve_right c)
          refine ⟨a1, ?_, a3⟩
          rw [upd_ne (ne_of a2 eD (by intro z; cases z))]
          exact sL _ _ a2
      · have old : ∀ c, c ∈ ins ks n → c ≠ n → ad c ≠ L := fun c hc ne z => by
          have := (all c ((mem_ins.mp hc).resolve_right ne)).2.1
          rw [z, nL] at this
          cases this
        dsimp only at e
        by_cases c1 : a = n
        · by_cases c2 : b = n
          · rw [c1, c2]
          · rw [if_pos c1, if_neg c2] at e
            exact absurd e.symm (old b hb c2)
        · by_cases c2 : b = n
          · rw [if_neg c1, if_pos c2] at e
            exact absurd e (old a ha c1)
          · rw [if_neg c1, if_neg c2] at e
            exact inj a ((mem_ins.mp ha).resolve_right c1) b ((mem_ins.mp hb).resolve_right c2) e
    rintro H1 ⟨sm, ks, kvs, ad, eD, ek, nd, mem, all, inj⟩
    rw [List.take_of_length_le (by rw [← nN.len]; exact Nat.le_refl _)] at mem
    have inks : ∀ p ∈ es, p.1 ∈ ks ∧ p.2 ∈ ks := fun p hp => ⟨(mem _).mpr (mem_nodes.mpr ⟨p.2, .inl hp⟩), (mem _).mpr (mem_nodes.mpr ⟨p.1, .inr hp⟩)⟩
    -- one name put into one list
    have ap : ∀ (Hx : Hp) (m : N2 → List N2) (a0 n : N2) (v : V), a0 ∈ ks → W37.NmV Hx v n → Hx D = some (.dT kvs) → (∀ a ∈ ks, ∃ ys, Hx (ad a) = some (.lst ys) ∧ W37.NmL Hx ys (m a)) →
        ∃ ys, Hx (ad a0) = some (.lst ys) ∧ ys.length = (m a0).length ∧ (L2.upd Hx (ad a0) (.lst (ys ++ [v]))) D = some (.dT kvs) ∧ W37.Tp Hx (L2.upd Hx (ad a0) (.lst (ys ++ [v]))) ∧
          ∀ a ∈ ks, ∃ zs, (L2.upd Hx (ad a0) (.lst (ys ++ [v]))) (ad a) = some (.lst zs) ∧ W37.NmL (L2.upd Hx (ad a0) (.lst (ys ++ [v]))) zs (m a ++ if a0 = a then [n] else []) := fun Hx m a0 n v ma nv eD al => by
      obtain ⟨ys, ey, ny⟩ := al a0 ma
      have up : W37.Tp Hx (L2.upd Hx (ad a0) (.lst (ys ++ [v]))) := W37.tp_upd fun us z => by rw [ey] at z; cases z
      refine ⟨ys, ey, ny.len, by rw [upd_ne (ne_of eD ey (by intro z; cases z))]; exact eD, up, fun a ha => ?_⟩
      by_cases c : a0 = a
      · subst c
        refine ⟨_, upd_same, ?_⟩
        rw [if_pos rfl]
        exact (ny.tp up).snoc (nv.tp up)
      · obtain ⟨zs, ez, nz⟩ := al a ha
        refine ⟨zs, ?_, ?_⟩
        · rw [upd_ne (fun z => c (inj a ha a0 ma z).symm)]
          exact ez
        · rw [if_neg c, List.append_nil]
          exact nz.tp up
    have nbl : ∀ (fs : List Pair) (a : N2), (nb fs a).length ≤ 2 * fs.length := fun fs a => by
      unfold nb
      rw [List.length_flatMap]
      induction fs with
      | nil => simp
      | cons p r ih =>
        rw [List.map_cons, List.sum_cons, List.length_cons, List.length_append]
        have h1 : (if p.1 = a then [p.2] else []).length ≤ 1 := by split <;> simp
        have h2 : (if p.2 = a then [p.1] else []).length ≤ 1 := by split <;> simp
        omega
    refine ⟨_, rfl, P0, rfl, ⟨_, sm.seq eP⟩, for_list (K := K) (a := P0) (xs := ps) (fun i σ Hx => ∃ c3 c4 : Option V, σ = [some (.ref N), some (.ref P0), some (.ref D), c3, c4, none] ∧ L2.Same H Hx ∧ Hx D = some (.dT kvs) ∧ ∀ a ∈ ks, ∃ ys, Hx (ad a) = some (.lst ys) ∧ W37.NmL Hx ys (nb (es.take i) a)) ⟨none, none, rfl, sm, eD, fun a ha => ⟨[], (all a ha).2.1, .nil⟩⟩ (fun i σ Hi _ z => by obtain ⟨_, _, _, z, _⟩ := z; exact z.seq eP) ?_ ?_⟩
    · rintro i x σ Hx hx ⟨c3, c4, rfl, sx, eDx, al⟩
      obtain ⟨p, t, va, vb, ep, rfl, et, ⟨ta, rfl, eta⟩, ⟨tb, rfl, etb⟩⟩ := pP.get hx
      have il := (List.getElem?_eq_some_iff.mp ep).1
      obtain ⟨m1, m2⟩ := inks p (List.mem_of_getElem? ep)
      have na : W37.NmV Hx (.ref ta) p.1 := ⟨ta, rfl, sx _ _ eta⟩
      have nb' : W37.NmV Hx (.ref tb) p.2 := ⟨tb, rfl, sx _ _ etb⟩
      refine ⟨t, _, rfl, SqT.of (sx _ _ et), rfl, _, _, rfl, _, _, rfl, rfl, ?_⟩
      have tl : (es.take i).length ≤ 100 := by rw [List.length_take]; omega
      obtain ⟨ys, ey, ly, eD1, up1, al1⟩ := ap Hx (nb (es.take i)) p.1 p.2 (.ref tb) m1 nb' eDx al
      have g1 := DGet.t (b := ta) (k := key p.1) eDx (sx _ _ eta)
      rw [(all p.1 m1).1] at g1
      have free : ∀ a ∈ ks, ∀ (Hy : Hp) (o : HO), L2.Same H Hy → L2.Same H (L2.upd Hy (ad a) o) := fun a ha Hy o s b u e => by
        rw [upd_ne (ne_of_none e (all a ha).2.2)]
        exact s b u e
      have s1 := free p.1 m1 Hx (.lst (ys ++ [.ref tb])) sx
      have z1 : ys.length < sizeLine := by
        rw [ly]
        exact Nat.lt_of_le_of_lt (show _ ≤ 200 by have := nbl (es.take i) p.1; omega) (by decide)
      refine ⟨_, rfl, _, rfl, D, .ref (ad p.1), rfl, g1, .inl ⟨rfl, _, SqL.of ey⟩, _, rfl, ad p.1, ys, _, rfl, rfl, ey, z1, ?_⟩
      obtain ⟨zs, ez, lz, eD2, up2, al2⟩ := ap _ (fun a => nb (es.take i) a ++ if p.1 = a then [p.2] else []) p.2 p.1 (.ref ta) m2 (na.tp up1) eD1 al1
      have g2 := DGet.t (b := tb) (k := key p.2) eD1 (up1 _ _ (sx _ _ etb))
      rw [(all p.2 m2).1] at g2
      have z2 : zs.length < sizeLine := by
        rw [lz, List.length_append]
        have h2 : (if p.1 = p.2 then [p.2] else []).length ≤ 1 := by split <;> simp
        exact Nat.lt_of_le_of_lt (show _ ≤ 300 by have := nbl (es.take i) p.2; omega) (by decide)
      refine ⟨_, rfl, _, rfl, D, .ref (ad p.2), rfl, g2, .inl ⟨rfl, _, SqL.of ez⟩, _, rfl, ad p.2, zs, _, rfl, rfl, ez, z2, _, _, rfl, free p.2 m2 _ _ s1, eD2, fun a ha => ?_⟩
      obtain ⟨ws, ew, nw⟩ := al2 a ha
      refine ⟨ws, ew, ?_⟩
      rw [List.take_add_one, ep]
      show W37.NmL _ ws (nb (es.take i ++ [p]) a)
      rw [nb_snoc, ← List.append_assoc]
      exact nw
    · rintro σ He ⟨c3, c4, rfl, se, eDe, al⟩
      rw [List.take_of_length_le (by rw [← pP.len]; exact Nat.le_refl _)] at al
      refine ⟨_, rfl, q D ks kvs He se nd mem eDe ⟨kvs, .inl eDe, ek, fun a ha => ?_⟩⟩
      obtain ⟨ys, ey, ny⟩ := al a ha
      exact ⟨ad a, ys, (all a ha).1, ey, ny, (all a ha).2.2⟩
end
end N44
set_option Elab.async false
set_option linter.all false
set_option maxRecDepth 100000
set_option maxHeartbeats 4000000
set_option pp.maxSteps 400
set_option pp.deepTerms false
namespace N44
open PySem PySem.Spec PyProof.Rows L2
open Xk Az Xnp
section
variable {P : Program} {w : World} {K : PySem.W.Frag} {mg : Str → Option Value} {base : Heap}
theorem rch_in {es : List Pair} {a b : N2} (h : Rch es a b) : b = a ∨ b ∈ nodes es := by
  cases h with
  | refl => exact .inl rfl
  | step _ j => exact .inr (mem_nodes.mpr ⟨_, j.symm⟩)
/-- a way of so many steps -/
inductive Wk (es : List Pair) (a : N2) : Nat → N2 → Prop
  | zero : Wk es a 0 a
  | step {n : Nat} {b c : N2} : Wk es a n b → Adj es b c → Wk es a (n + 1) c
/-- how many steps it is at least -/
def Far (es : List Pair) (a b : N2) (n : Nat) : Prop := Wk es a n b ∧ ∀ m, m < n → ¬ Wk es a m b
theorem Far.uniq {es : List Pair} {a b : N2} {n m : Nat} (h : Far es a b n) (k : Far es a b m) : n = m := by
  rcases Nat.lt_trichotomy n m with c | c | c
  · exact absurd h.1 (k.2 n c)
  · exact c
  · exact absurd k.1 (h.2 m c)
theorem Wk.rch {es : List Pair} {a b : N2} {n : Nat} (h : Wk es a n b) : Rch es a b := by
  induction h with
  | zero => exact .refl _
  | step _ j ih => exact .step ih j
theorem rch_wk {es : List Pair} {a b : N2} (h : Rch es a b) : ∃ n, Wk es a n b := by
  induction h with
  | refl => exact ⟨0, .zero⟩
  | step _ j ih => exact ih.imp' (· + 1) fun n w => .step w j
theorem Wk.far {es : List Pair} {a b : N2} : ∀ {n : Nat}, Wk es a n b → ∃ m, m ≤ n ∧ Far es a b m := fun {n} => by
  induction n using Nat.strongRecOn with
  | ind n ih =>
    intro w
    by_cases c : ∃ m, m < n ∧ Wk es a m b
    · obtain ⟨m, lt, wm⟩ := c
      obtain ⟨k, le, f⟩ := ih m lt wm
      exact ⟨k, by omega, f⟩
    · exact ⟨n, Nat.le_refl _, w, fun m lt wm => c ⟨m, lt, wm⟩⟩
theorem far_zero (es : List Pair) (a : N2) : Far es a a 0 := ⟨.zero, fun m h => absurd h (Nat.not_lt_zero _)⟩
/-- one step back is nearer by one -/
theorem Far.back {es : List Pair} {a b : N2} {n : Nat} (h : Far es a b (n + 1)) : ∃ c, Adj es c b ∧ Far es a c n := by
  obtain ⟨w, least⟩ := h
  cases w with
  | @step _ c _ w j => exact ⟨c, j, w, fun m lt wm => least (m + 1) (by omega) (.step wm j)⟩
/-- a dict whose keys are names -/
structure Kys (H : Hp) (t : Addr) (es : List Pair) (a : N2) (rs : List N2) : Prop where
  ex : ∃ kvs : List (List Key × V), H t = some (.dT kvs) ∧ kvs.map (·.1) = rs.map key ∧ ∀ b ∈ rs, ∃ n : Nat, valV kvs (key b) = some (.int n) ∧ Far es a b n
/-- while one row of names is looked through -/
structure Mid (k : Nat) (H : Hp) (S R : Addr) (es : List Pair) (a : N2) (rs : List N2) (Hy : Hp) (rs' ms : List N2) (kvs : List (List Key × V)) (zs : List V) : Prop where
  sm : L2.Same H Hy
  eS : Hy S = some (.dT kvs)
  ek : kvs.map (·.1) = rs'.map key
  vi : ∀ b ∈ rs', ∃ n : Nat, valV kvs (key b) = some (.int n) ∧ Far es a b n
  le : ∀ b ∈ rs', ∃ n, n ≤ k + 1 ∧ Wk es a n b
  ly : ∀ b ∈ ms, Far es a b (k + 1)
  nd : rs'.Nodup
  rr : ∀ b ∈ rs', Rch es a b
  eR : Hy R = some (.lst zs)
  nl : W37.NmL Hy zs ms
  mem : ∀ b, b ∈ rs' ↔ b ∈ rs ∨ b ∈ ms
  len : rs'.length = rs.length + ms.length
def spSteps : Sp := fun vs H Q _ => ∃ (H0 : Hp) (d : Addr) (v : V) (es : List Pair) (ks : List N2) (a : N2), vs = [.ref d, v] ∧ Lnk H0 H d ks es ∧ (∀ x, x ∈ ks ↔ x ∈ nodes es) ∧ es.length ≤ 100 ∧ W37.NmV H v a ∧
  ∀ (t : Addr) (rs : List N2) H', L2.Same H H' → Kys H' t es a rs → rs.Nodup → (∀ b, b ∈ rs ↔ Rch es a b) → Q (.ref t) H'
theorem ok_steps {f : Addr} {fd : FuncData} (D : Df K mg "steps_from" ["links", "start"] sStepsFrom f fd) (T : Txt K mg) : FnOk P w K mg base CX0 1 f fd ["links", "start"] spSteps := by
  refine D.fn.ok scStepsFrom (fun vs H Q E h => ?_) (fun cdv A outer s H vs Q E hr h => ?_)
  · obtain ⟨H0, d, v, es, ks, a, rfl, lk, mem, l100, nv, q⟩ := h
    rfl
  · obtain ⟨H0, d, v, es, ks, a, rfl, lk, mem, l100, nv, q⟩ := h
    refine ⟨_, (pss_cons (ps_set (i := 2) scStepsFrom.nd rfl (.inl rfl) (Xd1.pe_disp1 (.dT []) (.inr rfl) hr.units0 (pv 1) pe_int))
      (pss_cons (ps_set (i := 3) scStepsFrom.nd rfl (.inl rfl) (pe_lst (pa_cons (pv 1) pa_nil)))
      (pss_cons (ps_while PassesOwn.never (pt_cmpR op_gt (pe_callB call_len_seq (by rfl) T.len PySem.boot_len (pa_cons (pv 3) pa_nil)) pe_int (nomark _)) (pss_cons (ps_set (i := 4) scStepsFrom.nd rfl (.inl rfl) (pe_lst pa_nil))
      (pss_cons (ps_for PassesOwn.never rfl (pi_list (pv 3)) (pg_name (i := 5) scStepsFrom.nd rfl (.inl rfl)) (pss_one (ps_for PassesOwn.never rfl (pi_list (pe_dget2 (hu_of hr) (pv 0) (pv 5) (pe_lst pa_nil) ⟨rfl, rfl, rfl, rfl⟩)) (pg_name (i := 6) scStepsFrom.nd rfl (.inl rfl)) (pss_one (ps_if (pt_cmp (pc_dnotin (hu_of hr) (pv 6) (pv 2))) (pss_cons (ps_dput (hu_of hr) (pv 2) (pv 6) (pe_op op_add (pe_dget (hu_of hr) (pv 2) (pv 5) (fun _ _ => rfl)) pe_int) rfl)
      (pss_one (ps_expr (pe_bm PySem.F.plainAttrs_list PySem.F.slot_list_append PySem.F.type_list_append mt_append (pv 4) (pa_cons (pv 6) pa_nil))))) pss_nil)))))
      (pss_one (ps_set (i := 3) scStepsFrom.nd rfl (.inl rfl) (pv 4))))))
      (pss_one (ps_ret (pv 2)))))), ?_⟩
    obtain ⟨ta, rfl, eta⟩ := nv
    obtain ⟨lkvs, eD, eDk, lal⟩ := lk.ex
    have nlen := nodes_len es
    have nbl : ∀ b, (nb es b).length ≤ 200 := fun b => by
      have : ∀ fs : List Pair, (nb fs b).length ≤ 2 * fs.length := fun fs => by
        unfold nb
        rw [List.length_flatMap]
        induction fs with
        | nil => simp
        | cons p r ih =>
          rw [List.map_cons, List.sum_cons, List.length_cons, List.length_append]
          have h1 : (if p.1 = b then [p.2] else []).length ≤ 1 := by split <;> simp
          have h2 : (if p.2 = b then [p.1] else []).length ≤ 1 := by split <;> simp
          omega
      have := this es
      omega
    -- what is reached, and how much there can be
    have few : ∀ rs : List N2, rs.Nodup → (∀ b ∈ rs, Rch es a b) → rs.length ≤ 201 := fun rs nd rr => by
      have := nd_len nd (m := a :: nodes es) fun b hb => by
        rcases rch_in (rr b hb) with rfl | z
        · exact List.mem_cons_self
        · exact List.mem_cons_of_mem _ z
      rw [List.length_cons] at this
      omega
    refine fun S nS => ⟨_, rfl, _, DPut.t upd_same (show (L2.upd H S (.dT [])) ta = some (.tup ((key a).map kV)) from same_upd nS _ _ eta) (by decide), ?_⟩
    have sS : L2.Same H (L2.upd (L2.upd H S (.dT [])) S (.dT (putK [] (key a) (.int 0)))) := fun b o e => by
      rw [upd_ne (ne_of_none e nS)]
      exact same_upd nS _ _ e
    have eS : (L2.upd (L2.upd H S (.dT [])) S (.dT (putK [] (key a) (.int 0)))) S = some (.dT (putK [] (key a) (.int 0))) := upd_same
    generalize L2.upd (L2.upd H S (.dT [])) S (.dT (putK [] (key a) (.int 0))) = H1 at sS eS ⊢
    refine ⟨_, rfl, (by show 1 ≤ sizeLine; decide), fun L0 nL0 => ?_⟩
    have sL := same_upd nL0 (o := .lst [.ref ta])
    have eL : (L2.upd H1 L0 (.lst [.ref ta])) L0 = some (.lst [.ref ta]) := upd_same
    have eS2 := sL _ _ eS
    have s02 := sS.trans sL
    generalize L2.upd H1 L0 (.lst [.ref ta]) = H2 at eL eS2 s02 ⊢
    clear sS eS sL
    refine ⟨fun m σ Hx => ∃ (c4 c5 c6 : Option V) (kk : Nat) (Lr : Addr) (rs ls : List N2) (kvs : List (List Key × V)) (xs : List V), σ = [some (.ref d), some (.ref ta), some (.ref S), some (.ref Lr), c4, c5, c6] ∧ m = 2 * (201 - rs.length) + (if ls = [] then 0 else 1) ∧ L2.Same H Hx ∧
      Hx S = some (.dT kvs) ∧ kvs.map (·.1) = rs.map key ∧ (∀ b ∈ rs, ∃ n : Nat, valV kvs (key b) = some (.int n) ∧ Far es a b n) ∧ rs.Nodup ∧ a ∈ rs ∧ (∀ b ∈ rs, Rch es a b) ∧ Hx Lr = some (.lst xs) ∧ W37.NmL Hx xs ls ∧ (∀ b ∈ ls, b ∈ rs) ∧ (∀ b, b ∈ rs ↔ ∃ n, n ≤ kk ∧ Wk es a n b) ∧ (∀ b ∈ ls, Far es a b kk) ∧ (∀ b, Far es a b kk → b ∈ ls),
      ⟨_, none, none, none, 0, L0, [a], [a], _, _, rfl, rfl, s02, eS2, rfl, fun b hb => ⟨0, by rw [List.mem_singleton.mp hb]; exact valV_pos rfl, by rw [List.mem_singleton.mp hb]; exact far_zero es a⟩, by simp, by simp, fun b hb => by rw [List.mem_singleton.mp hb]; exact .refl a, eL, .cons ⟨ta, rfl, s02 _ _ eta⟩ .nil, fun b hb => hb, fun b => ⟨fun hb => ⟨0, Nat.le_refl _, by rw [List.mem_singleton.mp hb]; exact .zero⟩, fun ⟨n, hn, w⟩ => by
        obtain rfl : n = 0 := by omega
        cases w
        exact List.mem_singleton.mpr rfl⟩, fun b hb => by rw [List.mem_singleton.mp hb]; exact far_zero es a, fun b f => by
        obtain ⟨w, _⟩ := f
        cases w
        exact List.mem_singleton.mpr rfl⟩, ?_⟩
    rintro m σ Hx ⟨c4, c5, c6, kk, Lr, rs, ls, kvs, xs, rfl, rfl, sx, eSx, ek, vi, nd, ha, rr, eLx, nl, sub, upto, lvl, lvl2⟩
    have xl := nl.len
    have lrs := few rs nd rr
    refine ⟨_, rfl, Lr, xs, rfl, .inl (SqL.of eLx), _, 0, rfl, rfl, _, rfl, ?_⟩
    by_cases c0 : ls = []
    · subst c0
      have x0 : xs = [] := List.eq_nil_of_length_eq_zero (by simpa using xl)
      subst x0
      refine iteF ⟨_, rfl, q S rs Hx sx ⟨kvs, eSx, ek, vi⟩ nd fun b => ⟨rr b, fun r => ?_⟩⟩
      refine r.shut (S := fun b => b ∈ rs) ha fun x y hx j => ?_
      obtain ⟨n, hn, w⟩ := (upto x).mp hx
      obtain ⟨m2, hm, f⟩ := w.far
      have : m2 ≠ kk := fun z => by
        have := lvl2 x (z ▸ f)
        simp at this
      exact (upto y).mpr ⟨m2 + 1, by omega, .step f.1 j⟩
    have pos : 0 < xs.length := by
      rw [xl]
      exact List.length_pos_iff.mpr c0
    rw [decide_eq_true (show ((xs.length : Nat) : Int) > 0 by omega)]
    refine iteT ?_
    refine ⟨fun σ' Hy => ∃ (c4 c5 c6 : Option V) (R : Addr) (rs' ms : List N2) (kvs' : List (List Key × V)) (zs : List V), σ' = [some (.ref d), some (.ref ta), some (.ref S), some (.ref R), c4, c5, c6] ∧ Mid kk H S R es a rs Hy rs' ms kvs' zs ∧ ∀ b ∈ ls, ∀ c, Adj es b c → c ∈ rs', fun σ' Hy h => ?_, ?_⟩
    · obtain ⟨c4, c5, c6, R, rs', ms, kvs', zs, rfl, M, cl⟩ := h
      have l' := few rs' M.nd M.rr
      have len := M.len
      refine ⟨_, ?_, c4, c5, c6, kk + 1, R, rs', ms, kvs', zs, rfl, rfl, M.sm, M.eS, M.ek, M.vi, M.nd, (M.mem a).mpr (.inl ha), M.rr, M.eR, M.nl, fun b hb => (M.mem b).mpr (.inr hb), fun b => ⟨M.le b, fun ⟨n, hn, w⟩ => ?_⟩, M.ly, fun b f => ?_⟩
      · rw [if_neg c0]
        by_cases m0 : ms = []
        · rw [if_pos m0]
          omega
        · rw [if_neg m0]
          have := List.length_pos_iff.mpr m0
          omega
      · have reach : ∀ c, Far es a c (kk + 1) → c ∈ rs' := fun c f => by
          obtain ⟨x, jx, fx⟩ := f.back
          exact cl x (lvl2 x fx) c jx
        obtain ⟨m2, hm, f⟩ := w.far
        by_cases z : m2 ≤ kk
        · exact (M.mem b).mpr (.inl ((upto b).mpr ⟨m2, z, f.1⟩))
        · have : m2 = kk + 1 := by omega
          exact reach b (this ▸ f)
      · obtain ⟨x, jx, fx⟩ := f.back
        rcases (M.mem b).mp (cl x (lvl2 x fx) b jx) with z | z
        · obtain ⟨n, hn, w⟩ := (upto b).mp z
          exact absurd w (f.2 n (by omega))
        · exact z
    refine ⟨(by show 0 ≤ sizeLine; decide), fun R nR => ?_⟩
    have sR := same_upd nR (o := .lst [])
    have eR : (L2.upd Hx R (.lst [])) R = some (.lst []) := upd_same
    have eS3 := sR _ _ eSx
    have eL3 := sR _ _ eLx
    have sx3 := sx.trans sR
    have nl3 := nl.tp (W37.tp_same sR)
    have HR : H R = none := by
      cases e : H R with
      | none => rfl
      | some o => rw [sx _ _ e] at nR; cases nR
    have LR : Lr ≠ R := ne_of_none eLx nR
    have SR : S ≠ R := ne_of_none eSx nR
    have LS : Lr ≠ S := ne_of eLx eSx (by intro z; cases z)
    generalize L2.upd Hx R (.lst []) = H3 at eR eS3 eL3 sx3 nl3 ⊢
    have M0 : Mid kk H S R es a rs H3 rs [] kvs [] := ⟨sx3, eS3, ek, vi, fun b hb => ((upto b).mp hb).imp fun n w => ⟨by omega, w.2⟩, by simp, nd, rr, eR, .nil, fun b => by simp, by simp⟩
    refine ⟨_, rfl, Lr, rfl, ⟨_, SqL.of eL3⟩, for_list (K := K) (a := Lr) (xs := xs) (fun i σ' Hy => ∃ (c5 c6 : Option V) (rs' ms : List N2) (kvs' : List (List Key × V)) (zs : List V), σ' = [some (.ref d), some (.ref ta), some (.ref S), some (.ref Lr), some (.ref R), c5, c6] ∧ Mid kk H S R es a rs Hy rs' ms kvs' zs ∧ Hy Lr = some (.lst xs) ∧ W37.Tp H3 Hy ∧ ∀ b ∈ ls.take i, ∀ c, Adj es b c → c ∈ rs') ⟨c5, c6, rs, [], kvs, [], rfl, M0, eL3, fun _ _ e => e, fun b hb => by simp at hb⟩ (fun i σ Hi _ z => by obtain ⟨_, _, _, _, _, _, _, _, z, _⟩ := z; exact SqL.of z) ?_ ?_⟩
    · rintro i x σ' Hy hx ⟨c5, c6, rs', ms, kvs', zs, rfl, M, eLy, tpy, cl⟩
      obtain ⟨b, eb, tb, rfl, etb⟩ := nl3.get hx
      have etb := tpy _ _ etb
      have brs : b ∈ rs := sub b (List.mem_of_getElem? eb)
      have eDy := rd_same M.sm eD
      refine ⟨_, rfl, d, rfl, .inr ⟨lkvs, eDy⟩, _, rfl, (by show 0 ≤ sizeLine; decide), fun Z nZ => ?_⟩
      have sZ := same_upd nZ (o := .lst [])
      have eZ : (L2.upd Hy Z (.lst [])) Z = some (.lst []) := upd_same
      have eDz := rd_same sZ eDy
      have etz := sZ _ _ etb
      have eLz := sZ _ _ eLy
      have ZS : Z ≠ S := fun e => by rw [e, M.eS] at nZ; cases nZ
      have ZR : Z ≠ R := fun e => by rw [e, M.eR] at nZ; cases nZ
      have tz := tpy.trans (W37.tp_same sZ)
      have M1 : Mid kk H S R es a rs (L2.upd Hy Z (.lst [])) rs' ms kvs' zs := ⟨M.sm.trans sZ, sZ _ _ M.eS, M.ek, M.vi, M.le, M.ly, M.nd, M.rr, sZ _ _ M.eR, M.nl.tp (W37.tp_same sZ), M.mem, M.len⟩
      obtain ⟨Lb, ys, ev, eLb, nlb, LbS, LbR⟩ : ∃ (Lb : Addr) (ys : List V), (valV lkvs (key b)).getD (.ref Z) = .ref Lb ∧ (L2.upd Hy Z (.lst [])) Lb = some (.lst ys) ∧ W37.NmL (L2.upd Hy Z (.lst [])) ys (nb es b) ∧ Lb ≠ S ∧ Lb ≠ R := by
        by_cases bk : b ∈ ks
        · obtain ⟨Lb, ys, e1, e2, e3, _⟩ := lal b bk
          have e4 := sZ _ _ (M.sm _ _ e2)
          refine ⟨Lb, ys, by rw [e1]; rfl, e4, e3.tp ((W37.tp_same M.sm).trans (W37.tp_same sZ)), fun e => ?_, fun e => ?_⟩
          · rw [e, nS] at e2; cases e2
          · rw [e, HR] at e2; cases e2
        · have e1 : valV lkvs (key b) = none := by
            cases e : valV lkvs (key b) with
            | none => rfl
            | some v =>
              have := valV_in e
              rw [eDk] at this
              obtain ⟨b2, hb2, e2⟩ := List.mem_map.mp this
              exact absurd (key_inj e2 ▸ hb2) bk
          have e2 : nb es b = [] := by
            cases e : nb es b with
            | nil => rfl
            | cons c r => exact absurd ((mem b).mpr (mem_nodes.mpr ⟨c, mem_nb.mp (by rw [e]; exact List.mem_cons_self)⟩)) bk
          exact ⟨Z, [], by rw [e1]; rfl, eZ, by rw [e2]; exact .nil, ZS, ZR⟩
      refine ⟨_, rd_get (b := tb) (k := key b) eDz etz, ?_⟩
      rw [ev]
      generalize L2.upd Hy Z (.lst []) = H4 at M1 eLb nlb eLz etz tz ⊢
      clear M eDy eLy tpy etb sZ eZ eDz ev nZ ZS ZR
      have LrR : Lr ≠ R := LR
      refine ⟨Lb, rfl, ⟨_, SqL.of eLb⟩, for_list (K := K) (a := Lb) (xs := ys) (fun j σ' Hq => ∃ (c6 : Option V) (rs2 ms2 : List N2) (kvs2 : List (List Key × V)) (zs2 : List V), σ' = [some (.ref d), some (.ref ta), some (.ref S), some (.ref Lr), some (.ref R), some (.ref tb), c6] ∧ Mid kk H S R es a rs Hq rs2 ms2 kvs2 zs2 ∧ Hq Lr = some (.lst xs) ∧ W37.Tp H4 Hq ∧ Hq Lb = some (.lst ys) ∧ (∀ c ∈ (nb es b).take j, c ∈ rs2) ∧ ∀ c ∈ rs', c ∈ rs2) ⟨c6, rs', ms, kvs', zs, rfl, M1, eLz, fun _ _ e => e, eLb, fun c hc => by simp at hc, fun c hc => hc⟩ (fun i σ Hi _ z => by obtain ⟨_, _, _, _, _, _, _, _, _, z, _⟩ := z; exact SqL.of z) ?_ ?_⟩
      · rintro j y σ'' Hq hy ⟨c6', rs2, ms2, kvs2, zs2, rfl, M2, eLq, tq, eLbq, cl2, up⟩
        obtain ⟨c, ec, tc, rfl, etc⟩ := nlb.get hy
        have etc := tq _ _ etc
        have etbq := tq _ _ etz
        have lr2 := few rs2 M2.nd M2.rr
        have adj : Adj es b c := mem_nb.mp (List.mem_of_getElem? ec)
        have tk : (nb es b).take (j + 1) = (nb es b).take j ++ [c] := by rw [List.take_add_one, ec]; rfl
        refine ⟨_, rfl, _, rfl, S, _, rfl, DGet.t (b := tc) (k := key c) M2.eS etc, _, rfl, ?_⟩
        have isn : (valV kvs2 (key c)).isSome = decide (c ∈ rs2) := by
          by_cases m : c ∈ rs2
          · obtain ⟨n, e, _⟩ := M2.vi c m
            rw [e, decide_eq_true m]
            rfl
          · rw [decide_eq_false m]
            cases e : valV kvs2 (key c) with
            | none => rfl
            | some v =>
              have := valV_in e
              rw [M2.ek] at this
              obtain ⟨b2, hb2, e2⟩ := List.mem_map.mp this
              exact absurd (key_inj e2 ▸ hb2) m
        rw [isn]
        by_cases m : c ∈ rs2
        · rw [decide_eq_true m]
          refine iteF ⟨_, rs2, ms2, kvs2, zs2, rfl, M2, eLq, tq, eLbq, fun x hx => ?_, up⟩
          rw [tk] at hx
          rcases List.mem_append.mp hx with z | z
          · exact cl2 x z
          · rw [List.mem_singleton.mp z]; exact m
        · rw [decide_eq_false m]
          obtain ⟨n, en, fb⟩ := M2.vi b ((M2.mem b).mpr (.inl brs))
          have nk : n = kk := fb.uniq (lvl b (List.mem_of_getElem? eb))
          have fc : Far es a c (kk + 1) := by
            refine ⟨.step (nk ▸ fb.1) adj, fun m2 lt w => m ?_⟩
            exact (M2.mem c).mpr (.inl ((upto c).mpr ⟨m2, by omega, w⟩))
          have g := DGet.t (b := tb) (k := key b) M2.eS etbq
          rw [en] at g
          have kl : kvs2.length ≤ 201 := by
            have h1 := congrArg List.length M2.ek
            rw [List.length_map, List.length_map] at h1
            omega
          refine iteT ⟨_, rfl, _, rfl, S, .int (n : Int), rfl, g, (n : Int), 1, rfl, rfl, _, rfl, _, rfl, S, _, rfl, DPut.t (b := tc) (k := key c) M2.eS etc (Nat.lt_of_le_of_lt kl (by decide)), ?_⟩
          have RS : R ≠ S := Ne.symm SR
          have eRp : (L2.upd Hq S (.dT (putK kvs2 (key c) (.int ((n : Int) + 1))))) R = some (.lst zs2) := by rw [upd_ne RS]; exact M2.eR
          have zl : zs2.length < sizeLine := by
            have h1 := M2.nl.len
            have h2 := M2.len
            exact Nat.lt_of_le_of_lt (show _ ≤ 300 by omega) (by decide)
          refine ⟨_, rfl, .inl ⟨rfl, _, SqL.of eRp⟩, _, rfl, R, zs2, _, rfl, rfl, eRp, zl, ?_⟩
          have tp1 : W37.Tp Hq (L2.upd Hq S (.dT (putK kvs2 (key c) (.int ((n : Int) + 1))))) := W37.tp_upd fun us z => by rw [M2.eS] at z; cases z
          have tp2 := tp1.trans (W37.tp_upd (x := .lst (zs2 ++ [.ref tc])) fun us z => by rw [eRp] at z; cases z)
          refine ⟨_, rs2 ++ [c], ms2 ++ [c], putK kvs2 (key c) (.int ((n : Int) + 1)), zs2 ++ [.ref tc], rfl, ⟨fun b2 o e => ?_, ?_, ?_, fun x hx => ?_, fun x hx => ?_, fun x hx => ?_, ?_, fun x hx => ?_, upd_same, ?_, fun x => ?_, ?_⟩, ?_, tq.trans tp2, ?_, fun x hx => ?_, fun x hx => List.mem_append_left _ (up x hx)⟩
          · rw [upd_ne (ne_of_none e HR), upd_ne (ne_of_none e nS)]
            exact M2.sm _ _ e
          · rw [upd_ne SR]
            exact upd_same
          · have := keys_put (v := .int (n + 1)) (a := c) M2.ek
            unfold ins at this
            rw [if_neg m] at this
            exact this
          · rw [valV_put]
            by_cases c1 : x = c
            · rw [if_pos (by rw [c1])]
              exact ⟨n + 1, rfl, by rw [c1, nk]; exact fc⟩
            · rw [if_neg fun z => c1 (key_inj z)]
              rcases List.mem_append.mp hx with z | z
              · exact M2.vi x z
              · exact absurd (List.mem_singleton.mp z) c1
          · rcases List.mem_append.mp hx with z | z
            · exact M2.le x z
            · rw [List.mem_singleton.mp z]
              exact ⟨kk + 1, Nat.le_refl _, fc.1⟩
          · rcases List.mem_append.mp hx with z | z
            · exact M2.ly x z
            · rw [List.mem_singleton.mp z]
              exact fc
          · have := ins_nd (a := c) M2.nd
            unfold ins at this
            rw [if_neg m] at this
            exact this
          · rcases List.mem_append.mp hx with z | z
            · exact M2.rr x z
            · rw [List.mem_singleton.mp z]
              exact .step (M2.rr b ((M2.mem b).mpr (.inl brs))) adj
          · exact (M2.nl.tp tp2).snoc (W37.NmV.tp ⟨tc, rfl, etc⟩ tp2)
          · rw [List.mem_append, List.mem_append, M2.mem, or_assoc]
          · rw [List.length_append, List.length_append, M2.len]
            show _ + 1 = _ + (_ + 1)
            omega
          · rw [upd_ne LrR, upd_ne LS]
            exact eLq
          · rw [upd_ne LbR, upd_ne LbS]
            exact eLbq
          · rw [tk] at hx
            rcases List.mem_append.mp hx with z | z
            · exact List.mem_append_left _ (cl2 x z)
            · exact List.mem_append_right _ z
      · rintro σ'' Hq ⟨c6', rs2, ms2, kvs2, zs2, rfl, M2, eLq, tq, eLbq, cl2, up⟩
        rw [List.take_of_length_le (by rw [← nlb.len]; exact Nat.le_refl _)] at cl2
        refine ⟨_, _, rs2, ms2, kvs2, zs2, rfl, M2, eLq, tz.trans tq, fun x hx c j => ?_⟩
        rw [List.take_add_one, eb] at hx
        rcases List.mem_append.mp hx with z | z
        · exact up c (cl x z c j)
        · have z : x ∈ [b] := z
          rw [List.mem_singleton.mp z] at j
          exact cl2 c (mem_nb.mpr j)
    · rintro σ' Hy ⟨c5, c6, rs', ms, kvs', zs, rfl, M, eLy, tpy, cl⟩
      rw [List.take_of_length_le (by omega)] at cl
      exact ⟨_, rfl, _, _, _, R, rs', ms, kvs', zs, rfl, M, cl⟩
end
end N44
set_option Elab.async false
set_option linter.all false
set_option maxRecDepth 100000
set_option maxHeartbeats 4000000
set_option pp.maxSteps 400
set_option pp.deepTerms false
namespace N44
open PySem PySem.Spec PyProof.Rows L2
open Xk Az Xnp
section
variable {P : Program} {w : World} {K : PySem.W.Frag} {mg : Str → Option Value} {base : Heap}
theorem alike_nD (a b : N2) : PySem.W.alike (W37.nD a) (W37.nD b) = true := by
  simp [W37.nD, PySem.W.alike, PySem.W.alikeAll]
theorem dep_nD (a : N2) : (W37.nD a).depth ≤ 50 := by
  simp [W37.nD, PyData.depth, PyData.depthAll]
/-- rows of names -/
inductive GrL (H : Hp) : List V → List (List N2) → Prop
  | nil : GrL H [] []
  | cons {t : Addr} {ys : List V} {l : List N2} {vs : List V} {gs : List (List N2)} : H t = some (.tup ys) → W37.NmL H ys l → GrL H vs gs → GrL H (.ref t :: vs) (l :: gs)
theorem GrL.tp {H H' : Hp} (s : W37.Tp H H') : ∀ {vs : List V} {gs : List (List N2)}, GrL H vs gs → GrL H' vs gs
  | _, _, .nil => .nil
  | _, _, .cons h1 h2 r => .cons (s _ _ h1) (h2.tp s) (r.tp s)
theorem GrL.len {H : Hp} : ∀ {vs : List V} {gs : List (List N2)}, GrL H vs gs → vs.length = gs.length
  | _, _, .nil => rfl
  | _, _, .cons _ _ r => by rw [List.length_cons, List.length_cons, r.len]
theorem GrL.snoc {H : Hp} {t : Addr} {ys : List V} {l : List N2} (h1 : H t = some (.tup ys)) (h2 : W37.NmL H ys l) : ∀ {vs : List V} {gs : List (List N2)}, GrL H vs gs → GrL H (vs ++ [.ref t]) (gs ++ [l])
  | _, _, .nil => .cons h1 h2 .nil
  | _, _, .cons a b r => .cons a b (r.snoc h1 h2)
/-- the classes of all names, each once -/
structure Grp (es : List Pair) (gs : List (List N2)) : Prop where
  cls : ∀ l ∈ gs, ∃ a, a ∈ nodes es ∧ Cls es a l
  nd : gs.Nodup
  all : ∀ a ∈ nodes es, ∃ l ∈ gs, a ∈ l
theorem nml_of {H : Hp} : ∀ {bs : List Xsd.Kb} {l : List N2}, (∀ b ∈ bs, H b.2 = some (.tup (b.1.map kV))) → bs.map (·.1) = l.map key → W37.NmL H (bs.map fun b => V.ref b.2) l
  | [], [], _, _ => .nil
  | [], _ :: _, _, h => by simp at h
  | _ :: _, [], _, h => by simp at h
  | b :: bs, a :: l, h, e => by
    rw [List.map_cons, List.map_cons] at e
    injection e with e1 e2
    have h1 := h b List.mem_cons_self
    have e1 : b.1 = key a := e1
    rw [e1] at h1
    exact .cons ⟨b.2, rfl, h1⟩ (nml_of (fun c hc => h c (List.mem_cons_of_mem _ hc)) e2)
theorem keys_any {kvs : List (List Key × V)} {ks : List N2} {a : N2} (h : kvs.map (·.1) = ks.map key) : (valV kvs (key a)).isSome = decide (a ∈ ks) := by
  have e0 : (kvs.any fun kv => decide (kv.1 = key a)) = (kvs.map (·.1)).any fun k => decide (k = key a) := by rw [List.any_map]; rfl
  rw [← valV_any, e0, h, List.any_map, Bool.eq_iff_iff, List.any_eq_true, decide_eq_true_eq]
  constructor
  · rintro ⟨b, hb, e⟩
    rw [← key_inj (of_decide_eq_true e)]
    exact hb
  · exact fun m => ⟨a, m, decide_eq_true rfl⟩
abbrev Gt := V × List N2
abbrev gD (l : List N2) : PyData := .tuple (l.map W37.nD)
theorem GrL.split {H : Hp} : ∀ {vs : List V} {gs : List (List N2)}, GrL H vs gs → ∃ ts : List Gt, ts.map (·.1) = vs ∧ ts.map (·.2) = gs ∧ ∀ p ∈ ts, ∃ t ys, p.1 = .ref t ∧ H t = some (.tup ys) ∧ W37.NmL H ys p.2
  | _, _, .nil => ⟨[], rfl, rfl, fun p hp => by cases hp⟩
  | _, _, @GrL.cons _ t ys l _ _ h1 h2 r => by
    obtain ⟨ts, e1, e2, h⟩ := r.split
    refine ⟨(.ref t, l) :: ts, by rw [List.map_cons, e1], by rw [List.map_cons, e2], fun p hp => ?_⟩
    rcases List.mem_cons.mp hp with rfl | z
    · exact ⟨t, ys, rfl, h1, h2⟩
    · exact h p z
theorem grl_join {H : Hp} : ∀ {ts : List Gt}, (∀ p ∈ ts, ∃ t ys, p.1 = .ref t ∧ H t = some (.tup ys) ∧ W37.NmL H ys p.2) → GrL H (ts.map (·.1)) (ts.map (·.2))
  | [], _ => .nil
  | (v, l) :: ts, h => by
    obtain ⟨t, ys, e, h1, h2⟩ := h (v, l) List.mem_cons_self
    have e : v = .ref t := e
    subst e
    exact .cons h1 h2 (grl_join fun p hp => h p (List.mem_cons_of_mem _ hp))
theorem nml_dp {H : Hp} : ∀ {ys : List V} {l : List N2}, W37.NmL H ys l → DpAll K H ys (l.map W37.nD)
  | _, _, .nil => .nil
  | _, _, .cons ⟨t, e, h⟩ r => by
    subst e
    exact .cons (.tup (SqT.of h) (.cons (.str _) (.cons (.str _) .nil))) (nml_dp r)
theorem alike_all : ∀ l m : List N2, PySem.W.alikeAll (l.map W37.nD) (m.map W37.nD) = true
  | [], _ => by simp [PySem.W.alikeAll]
  | _ :: _, [] => by simp [PySem.W.alikeAll]
  | a :: l, b :: m => by
    rw [List.map_cons, List.map_cons]
    simp only [PySem.W.alikeAll, alike_nD, alike_all l m, Bool.and_self]
theorem dep_all : ∀ l : List N2, PyData.depthAll (l.map W37.nD) ≤ 3
  | [] => by simp [PyData.depthAll]
  | a :: l => by
    have := dep_all l
    rw [List.map_cons]
    simp only [PyData.depthAll, W37.nD, PyData.depth]
    omega
def spGroups : Sp := fun vs H Q _ => ∃ (H0 : Hp) (d : Addr) (es : List Pair) (ks : List N2) (lkvs : List (List Key × V)), vs = [.ref d] ∧ Lnk H0 H d ks es ∧ H d = some (.dT lkvs) ∧ ks.Nodup ∧ (∀ x, x ∈ ks ↔ x ∈ nodes es) ∧ es.length ≤ 100 ∧
  ∀ (t : Addr) (xs : List V) (gs : List (List N2)) H', L2.Same H H' → H' t = some (.tup xs) → GrL H' xs gs → Grp es gs → Q (.ref t) H'
theorem ok_groups {f : Addr} {fd : FuncData} (D : Df K mg "groups_in" ["links"] sGroupsIn f fd) (T : Txt K mg) (cSt : Ca P w K mg base 1 "steps_from" ["links", "start"] spSteps) : FnOk P w K mg base CX0 4 f fd ["links"] spGroups := by
  refine D.fn.ok scGroupsIn (fun vs H Q E h => ?_) (fun cdv A outer s H vs Q E hr h => ?_)
  · obtain ⟨H0, d, es, ks, lkvs, rfl, lk, eD, ndk, mem, l100, q⟩ := h
    rfl
  · obtain ⟨H0, d, es, ks, lkvs, rfl, lk, eD, ndk, mem, l100, q⟩ := h
    refine ⟨_, (pss_cons (ps_set (i := 1) scGroupsIn.nd rfl (.inl rfl) pe_dnewT)
      (pss_cons (ps_set (i := 2) scGroupsIn.nd rfl (.inl rfl) (pe_lst pa_nil))
      (pss_cons (ps_lock (ps_for PassesOwn.never rfl (pi_keys (pv 0)) (pg_name (i := 3) scGroupsIn.nd rfl (.inl rfl)) (pss_one (ps_if (pt_cmp (pc_dnotin (hu_of hr) (pv 3) (pv 1))) (pss_cons (ps_set (i := 4) scGroupsIn.nd rfl (.inl rfl) (pe_callTy call_tuple_of (by rfl) T.tuple (by decide +kernel) (pa_cons (pe_callB (Xsd.cr_sortK (k := 0) (by rfl) (hr.mono (by decide))) (by rfl) T.sorted (by decide +kernel) (pa_cons (pe_ca cSt hr (by decide) (by rfl) (pa_cons (pv 0) (pa_cons (pv 3) pa_nil))) pa_nil)) pa_nil)))
      (pss_cons (ps_expr (pe_bm PySem.F.plainAttrs_list PySem.F.slot_list_append PySem.F.type_list_append mt_append (pv 2) (pa_cons (pv 4) pa_nil)))
      (pss_one (ps_for PassesOwn.never rfl (pi_tup (pv 4)) (pg_name (i := 5) scGroupsIn.nd rfl (.inl rfl)) (pss_one (ps_dput (hu_of hr) (pv 1) (pv 5) pe_bl rfl)))))) pss_nil))))
      (pss_one (ps_ret (pe_callTy call_tuple_of (by rfl) T.tuple (by decide +kernel) (pa_cons (pe_callB (Xsd.cr_sortD (k := 0) (hr.mono (by decide))) (by rfl) T.sorted (by decide +kernel) (pa_cons (pv 2) pa_nil)) pa_nil))))))), ?_⟩
    obtain ⟨lkvs', rD, eDk, lal⟩ := lk.ex
    have e0 : lkvs' = lkvs := by
      rcases rD with z | ⟨o, z⟩
      · rw [eD] at z; cases z; rfl
      · rw [eD] at z; cases z
    subst e0
    refine fun S nS => ?_
    have sS := same_upd nS (o := .dT [])
    have eS : (L2.upd H S (.dT [])) S = some (.dT []) := upd_same
    have eD1 := sS _ _ eD
    generalize L2.upd H S (.dT []) = H1 at sS eS eD1 ⊢
    refine ⟨(by show 0 ≤ sizeLine; decide), fun G nG => ?_⟩
    have sG := same_upd nG (o := .lst [])
    have eG : (L2.upd H1 G (.lst [])) G = some (.lst []) := upd_same
    have eS2 := sG _ _ eS
    have eD2 := sG _ _ eD1
    have s02 := sS.trans sG
    have HG : H G = none := by
      cases e : H G with
      | none => rfl
      | some o => rw [sS _ _ e] at nG; cases nG
    generalize L2.upd H1 G (.lst []) = H2 at eG eS2 eD2 s02 ⊢
    refine ⟨d, .dT lkvs', eD2, True.intro, fun od => ?_⟩
    have eF : (L2.upd H2 d (.frz od (.dT lkvs'))) d = some (.frz od (.dT lkvs')) := upd_same
    have bF : ∀ b o, b ≠ d → H b = some o → (L2.upd H2 d (.frz od (.dT lkvs'))) b = some o := fun b o n e => by rw [upd_ne n]; exact s02 _ _ e
    have SD : S ≠ d := fun e => by rw [e, eD] at nS; cases nS
    have GD : G ≠ d := fun e => by rw [e, eD] at HG; cases HG
    have SG : S ≠ G := fun e => by rw [e, eG] at eS2; cases eS2
    have eS3 : (L2.upd H2 d (.frz od (.dT lkvs'))) S = some (.dT []) := by rw [upd_ne SD]; exact eS2
    have eG3 : (L2.upd H2 d (.frz od (.dT lkvs'))) G = some (.lst []) := by rw [upd_ne GD]; exact eG
    generalize L2.upd H2 d (.frz od (.dT lkvs')) = H3 at eF bF eS3 eG3 ⊢
    have lk0 : lkvs'.length = ks.length := by
      have := congrArg List.length eDk
      rwa [List.length_map, List.length_map] at this
    have ksl : ks.length ≤ 200 := by
      have := nd_len ndk (m := nodes es) fun a h => (mem a).mp h
      have := nodes_len es
      omega
    refine ⟨_, rfl, d, od, rfl, .inr ⟨lkvs', eF, ?_⟩⟩
    have wk : Walk (Itkt d od lkvs') lkvs'.length (fun Hx => Hx d = some (.frz od (.dT lkvs'))) (fun i Hx x H' => H' = Hx ∧ ∃ (k : List Key) (v : V) (q : Addr), lkvs'[i]? = some (k, v) ∧ x = .ref q ∧ Hx q = some (.tup (k.map kV))) :=
      ⟨fun i Hx hi h => ⟨h, hi⟩, fun Hx h => ⟨h, Nat.le_refl _⟩, fun i Hx x H' _ _ y => y⟩
    refine for_it wk (fun i σ Hx => ∃ (c3 c4 c5 : Option V) (ss : List N2) (skvs : List (List Key × V)) (xs : List V) (gs : List (List N2)), σ = [some (.ref d), some (.ref S), some (.ref G), c3, c4, c5] ∧ Hx d = some (.frz od (.dT lkvs')) ∧ (∀ b o, b ≠ d → H b = some o → Hx b = some o) ∧
      Hx S = some (.dT skvs) ∧ skvs.map (·.1) = ss.map key ∧ ss.Nodup ∧ Hx G = some (.lst xs) ∧ GrL Hx xs gs ∧ (∀ l ∈ gs, ∃ a, a ∈ nodes es ∧ Cls es a l) ∧ gs.Nodup ∧ (∀ b, b ∈ ss ↔ ∃ l ∈ gs, b ∈ l) ∧ gs.length ≤ i ∧ ∀ a ∈ ks.take i, a ∈ ss) ⟨none, none, none, [], [], [], [], rfl, eF, bF, eS3, rfl, List.nodup_nil, eG3, .nil, (fun l hl => by cases hl), List.nodup_nil, (fun b => by simp), Nat.le_refl _, (fun a h => by simp at h)⟩ (fun i σ Hi _ z => by obtain ⟨_, _, _, _, _, _, _, _, z, _⟩ := z; exact z) ?_ ?_
    · rintro i x σ Hx H' il ⟨c3, c4, c5, ss, skvs, xs, gs, rfl, eDx, bx, eSx, ek, nds, eGx, gr, cls, ndg, ms, gi, cov⟩ ⟨rfl, kk, vv, qa, eki, rfl, eqa⟩
      obtain ⟨a, ea, rfl⟩ : ∃ a, ks[i]? = some a ∧ kk = key a := by
        have h := congrArg (fun l => l[i]?) eDk
        rw [List.getElem?_map, List.getElem?_map, eki] at h
        obtain ⟨a, e1, e2⟩ := Option.map_eq_some_iff.mp h.symm
        exact ⟨a, e1, e2.symm⟩
      have an : a ∈ nodes es := (mem a).mp (List.mem_of_getElem? ea)
      have gl := gr.len
      have tpH : W37.Tp H H' := fun b ys e => bx b _ (fun z => by rw [z, eD] at e; cases e) e
      refine ⟨_, rfl, _, rfl, S, _, rfl, DGet.t (b := qa) (k := key a) eSx eqa, _, rfl, ?_⟩
      rw [keys_any ek]
      by_cases m : a ∈ ss
      · rw [decide_eq_true m]
        refine iteF ⟨_, c4, c5, ss, skvs, xs, gs, rfl, eDx, bx, eSx, ek, nds, eGx, gr, cls, ndg, ms, by omega, fun b hb => ?_⟩
        rw [List.take_add_one, ea] at hb
        rcases List.mem_append.mp hb with z | z
        · exact cov b z
        · have z : b ∈ [a] := z
          rw [List.mem_singleton.mp z]
          exact m
      · rw [decide_eq_false m]
        have LF : Lnk H0 H' d ks es := ⟨lkvs', .inr ⟨od, eDx⟩, eDk, fun b hb => by
          obtain ⟨L, ys, e1, e2, e3, e4⟩ := lal b hb
          exact ⟨L, ys, e1, bx L _ (fun z => by rw [z, eD] at e2; cases e2) e2, e3.tp tpH, e4⟩⟩
        refine iteT ⟨_, rfl, _, rfl, H0, d, .ref qa, es, ks, a, rfl, LF, mem, l100, ⟨qa, rfl, eqa⟩, fun t rs H4 s4 ky nd4 rch => ?_⟩
        obtain ⟨kvs4, e4, ek4, _⟩ := ky.ex
        have isn : (kvs4.map fun p => Xsd.kyT p.1) = rs.map W37.nD := by
          have := congrArg (List.map Xsd.kyT) ek4
          rw [List.map_map, List.map_map] at this
          exact this
        refine ⟨t, kvs4, rfl, Rd.of e4, ?_, ?_, ?_, fun p bs np hb eb => ?_⟩
        · rw [isn]
          intro x hx y hy
          obtain ⟨x', _, rfl⟩ := List.mem_map.mp hx
          obtain ⟨y', _, rfl⟩ := List.mem_map.mp hy
          exact alike_nD x' y'
        · rw [isn]
          refine .inl fun x hx => ?_
          obtain ⟨x', _, rfl⟩ := List.mem_map.mp hx
          exact ⟨_, _, rfl⟩
        · intro x hx
          have : Xsd.kyT x.1 ∈ rs.map W37.nD := by rw [← isn]; exact List.mem_map.mpr ⟨x, hx, rfl⟩
          obtain ⟨x', _, e⟩ := List.mem_map.mp this
          rw [← e]
          exact dep_nD x'
        obtain ⟨l, el⟩ : ∃ l, l = rs.mergeSort nmLe := ⟨_, rfl⟩
        have eb2 : bs.map (·.1) = l.map key := by
          rw [eb, ek4, el]
          exact (List.map_mergeSort (r := nmLe) (s := PySem.W.dataLe false Xsd.kyT) fun a _ b _ => rfl).symm
        have pm : l.Perm rs := by rw [el]; exact List.mergeSort_perm rs nmLe
        have cl : Cls es a l := ⟨pm.nodup_iff.mpr nd4, fun b => pm.mem_iff.trans (rch b), by rw [el]; exact rise_sort rs⟩
        have s5 := same_upd np (o := .lst (bs.map fun b => V.ref b.2))
        have n5 := nml_of (fun b m => s5 _ _ (hb b m)) eb2
        refine ⟨p, _, rfl, .inl ⟨SqL.of upd_same, fun u nu => ?_⟩⟩
        have s6 := same_upd nu (o := .tup (bs.map fun b => V.ref b.2))
        have eu : (L2.upd (L2.upd H4 p (.lst (bs.map fun b => V.ref b.2))) u (.tup (bs.map fun b => V.ref b.2))) u = some (.tup (bs.map fun b => V.ref b.2)) := upd_same
        have n6 := n5.tp (W37.tp_same s6)
        have s46 := s4.trans (s5.trans s6)
        generalize L2.upd (L2.upd H4 p (.lst (bs.map fun b => V.ref b.2))) u (.tup (bs.map fun b => V.ref b.2)) = H6 at eu n6 s46 ⊢
        obtain ⟨ns, ens⟩ : ∃ ns, ns = bs.map fun b => V.ref b.2 := ⟨_, rfl⟩
        rw [← ens] at eu n6
        have eG6 := s46 _ _ eGx
        have ll : l.length ≤ 201 := by
          have := nd_len cl.nd (m := a :: nodes es) fun b hb => by
            rcases rch_in ((cl.mem b).mp hb) with rfl | z
            · exact List.mem_cons_self
            · exact List.mem_cons_of_mem _ z
          have := nodes_len es
          rw [List.length_cons] at *
          omega
        have lnew : l ∉ gs := fun h => m ((ms a).mpr ⟨l, h, cl.self⟩)
        have gsl : gs.length ≤ 200 := by omega
        have xz : xs.length < sizeLine := by
          rw [gl]
          exact Nat.lt_of_le_of_lt gsl (by decide)
        refine ⟨_, rfl, .inl ⟨rfl, _, SqL.of eG6⟩, _, rfl, G, xs, _, rfl, rfl, eG6, xz, ?_⟩
        have tp7 : W37.Tp H6 (L2.upd H6 G (.lst (xs ++ [.ref u]))) := W37.tp_upd fun us z => by rw [eG6] at z; cases z
        have eG7 : (L2.upd H6 G (.lst (xs ++ [.ref u]))) G = some (.lst (xs ++ [.ref u])) := upd_same
        have eS7 : (L2.upd H6 G (.lst (xs ++ [.ref u]))) S = some (.dT skvs) := by rw [upd_ne SG]; exact s46 _ _ eSx
        have eD7 : (L2.upd H6 G (.lst (xs ++ [.ref u]))) d = some (.frz od (.dT lkvs')) := by rw [upd_ne (Ne.symm GD)]; exact s46 _ _ eDx
        have b7 : ∀ b o, b ≠ d → H b = some o → (L2.upd H6 G (.lst (xs ++ [.ref u]))) b = some o := fun b o n e => by
          rw [upd_ne (ne_of_none e HG)]
          exact s46 _ _ (bx b o n e)
        have gr7 := (gr.tp ((W37.tp_same s46).trans tp7)).snoc (tp7 _ _ eu) (n6.tp tp7)
        have eu7 := tp7 _ _ eu
        have n7 := n6.tp tp7
        generalize L2.upd H6 G (.lst (xs ++ [.ref u])) = H7 at eG7 eS7 eD7 b7 gr7 eu7 n7 ⊢
        clear tp7 eG6 eu n6 s46 s6 s5 n5
        refine ⟨_, rfl, u, rfl, ⟨_, SqT.of eu7⟩, for_tup (K := K) (a := u) (xs := ns) (fun j σ' Hy => ∃ (c5 : Option V) (ss2 : List N2) (sk2 : List (List Key × V)), σ' = [some (.ref d), some (.ref S), some (.ref G), some (.ref qa), some (.ref u), c5] ∧ Hy d = some (.frz od (.dT lkvs')) ∧ (∀ b o, b ≠ d → H b = some o → Hy b = some o) ∧
          Hy S = some (.dT sk2) ∧ sk2.map (·.1) = ss2.map key ∧ ss2.Nodup ∧ Hy G = some (.lst (xs ++ [.ref u])) ∧ W37.Tp H7 Hy ∧ ∀ b, b ∈ ss2 ↔ b ∈ ss ∨ b ∈ l.take j) ⟨c5, ss, skvs, rfl, eD7, b7, eS7, ek, nds, eG7, fun _ _ e => e, fun b => by simp⟩ (fun i σ Hi _ z => by obtain ⟨_, _, _, _, _, _, _, _, _, _, z, _⟩ := z; exact SqT.of (z _ _ eu7)) ?_ ?_⟩
        · rintro j y σ'' Hy hy ⟨c5', ss2, sk2, rfl, eDy, by_, eSy, ek2, nd2, eGy, ty, ms2⟩
          obtain ⟨b, eb3, tb, rfl, etb⟩ := n7.get hy
          have inn : ∀ b ∈ ss2, b ∈ nodes es := fun b hb => by
            rcases (ms2 b).mp hb with z | z
            · obtain ⟨l', h1, h2⟩ := (ms b).mp z
              obtain ⟨a', ha', c'⟩ := cls l' h1
              rcases rch_in ((c'.mem b).mp h2) with rfl | w
              · exact ha'
              · exact w
            · rcases rch_in ((cl.mem b).mp (List.mem_of_mem_take z)) with rfl | w
              · exact an
              · exact w
          have kl : sk2.length ≤ 2000 := by
            have h1 := congrArg List.length ek2
            rw [List.length_map, List.length_map] at h1
            have h2 := nd_len nd2 inn
            have h3 := nodes_len es
            omega
          refine ⟨_, rfl, _, rfl, S, _, rfl, DPut.t (b := tb) (k := key b) eSy (ty _ _ etb) (Nat.lt_of_le_of_lt kl (by decide)), _, ins ss2 b, putK sk2 (key b) (.bl true), rfl, ?_, fun c o n e => ?_, upd_same, keys_put ek2, ins_nd nd2, ?_, ty.trans (W37.tp_upd fun us z => by rw [eSy] at z; cases z), fun c => ?_⟩
          · rw [upd_ne (Ne.symm SD)]; exact eDy
          · rw [upd_ne (ne_of_none e nS)]; exact by_ c o n e
          · rw [upd_ne (Ne.symm SG)]; exact eGy
          · rw [mem_ins, ms2, List.take_add_one, eb3, List.mem_append]
            show _ ↔ c ∈ ss ∨ (c ∈ l.take j ∨ c ∈ [b])
            rw [List.mem_singleton, or_assoc]
        · rintro σ'' Hy ⟨c5', ss2, sk2, rfl, eDy, by_, eSy, ek2, nd2, eGy, ty, ms2⟩
          rw [List.take_of_length_le (by rw [← n7.len]; exact Nat.le_refl _)] at ms2
          refine ⟨_, _, _, ss2, sk2, xs ++ [.ref u], gs ++ [l], rfl, eDy, by_, eSy, ek2, nd2, eGy, gr7.tp ty, fun l' h => ?_, ?_, fun b => ?_, by rw [List.length_append]; show _ + 1 ≤ _; omega, fun b hb => ?_⟩
          · rcases List.mem_append.mp h with z | z
            · exact cls l' z
            · rw [List.mem_singleton.mp z]
              exact ⟨a, an, cl⟩
          · rw [List.nodup_append]
            refine ⟨ndg, by simp, fun x hx y hy => ?_⟩
            rw [List.mem_singleton.mp hy]
            rintro rfl
            exact lnew hx
          · rw [ms2, ms]
            constructor
            · rintro (⟨l', h1, h2⟩ | h)
              · exact ⟨l', List.mem_append_left _ h1, h2⟩
              · exact ⟨l, List.mem_append_right _ (List.mem_singleton.mpr rfl), h⟩
            · rintro ⟨l', h1, h2⟩
              rcases List.mem_append.mp h1 with z | z
              · exact .inl ⟨l', z, h2⟩
              · rw [List.mem_singleton.mp z] at h2
                exact .inr h2
          · rw [List.take_add_one, ea] at hb
            rcases List.mem_append.mp hb with z | z
            · exact (ms2 b).mpr (.inl (cov b z))
            · have z : b ∈ [a] := z
              rw [List.mem_singleton.mp z]
              exact (ms2 a).mpr (.inr cl.self)
    · rintro σ Hx ⟨c3, c4, c5, ss, skvs, xs, gs, rfl, eDx, bx, eSx, ek, nds, eGx, gr, cls, ndg, ms, gi, cov⟩
      refine ⟨eDx, ?_⟩
      have SF : L2.Same H (L2.upd Hx d (.dT lkvs')) := fun b o e => by
        by_cases c : b = d
        · subst c
          rw [eD] at e
          rw [upd_same]
          exact e
        · rw [upd_ne c]
          exact bx b o c e
      have tpf : W37.Tp Hx (L2.upd Hx d (.dT lkvs')) := W37.tp_upd fun us z => by rw [eDx] at z; cases z
      have eGz : (L2.upd Hx d (.dT lkvs')) G = some (.lst xs) := by rw [upd_ne GD]; exact eGx
      have grz := gr.tp tpf
      generalize L2.upd Hx d (.dT lkvs') = Hz at SF eGz grz ⊢
      obtain ⟨ts, et1, et2, hts⟩ := grz.split
      have ebs : (ts.map fun p : Gt => ((p.1, gD p.2) : Xsd.Pd)).map (·.1) = xs := by rw [List.map_map, ← et1]; rfl
      have ebd : (ts.map fun p : Gt => ((p.1, gD p.2) : Xsd.Pd)).map (·.2) = gs.map gD := by rw [List.map_map, ← et2, List.map_map]; rfl
      refine ⟨_, rfl, G, ts.map fun p : Gt => ((p.1, gD p.2) : Xsd.Pd), rfl, .inl (by rw [ebs]; exact SqL.of eGz), fun b hb => ?_, ?_, ?_, fun b hb => ?_, fun p np => ?_⟩
      · obtain ⟨x, hx, rfl⟩ := List.mem_map.mp hb
        obtain ⟨t, ys, e, h1, h2⟩ := hts x hx
        show Dp K Hz x.1 (gD x.2)
        rw [e]
        exact .tup (SqT.of h1) (nml_dp h2)
      · rw [ebd]
        intro x hx y hy
        obtain ⟨x', _, rfl⟩ := List.mem_map.mp hx
        obtain ⟨y', _, rfl⟩ := List.mem_map.mp hy
        show PySem.W.alike (.tuple (x'.map W37.nD)) (.tuple (y'.map W37.nD)) = true
        simp only [PySem.W.alike, alike_all]
      · rw [ebd]
        refine .inl fun x hx => ?_
        obtain ⟨l, hl, rfl⟩ := List.mem_map.mp hx
        obtain ⟨a, _, c⟩ := cls l hl
        cases l with
        | nil => exact absurd c.self (by simp)
        | cons y r => exact ⟨_, _, rfl⟩
      · obtain ⟨x, hx, rfl⟩ := List.mem_map.mp hb
        have := dep_all x.2
        show (PyData.tuple (x.2.map W37.nD)).depth ≤ 50
        simp only [PyData.depth]
        omega
      have em : ((ts.map fun p : Gt => ((p.1, gD p.2) : Xsd.Pd)).mergeSort (PySem.W.dataLe false fun b : Xsd.Pd => b.2)).map (·.1) = (ts.mergeSort (PySem.W.dataLe false fun p : Gt => gD p.2)).map (·.1) := by
        rw [← List.map_mergeSort (r := PySem.W.dataLe false fun p : Gt => gD p.2) (s := PySem.W.dataLe false fun b : Xsd.Pd => b.2) (f := fun p : Gt => ((p.1, gD p.2) : Xsd.Pd)) fun a _ b _ => rfl, List.map_map]
        rfl
      rw [em]
      have pts : (ts.mergeSort (PySem.W.dataLe false fun p : Gt => gD p.2)).Perm ts := List.mergeSort_perm _ _
      have gj := grl_join (H := Hz) (ts := ts.mergeSort (PySem.W.dataLe false fun p : Gt => gD p.2)) fun p hp => hts p (pts.mem_iff.mp hp)
      have pg : ((ts.mergeSort (PySem.W.dataLe false fun p : Gt => gD p.2)).map (·.2)).Perm gs := by rw [← et2]; exact pts.map _
      generalize (ts.mergeSort (PySem.W.dataLe false fun p : Gt => gD p.2)).map (·.1) = xs2 at gj ⊢
      generalize (ts.mergeSort (PySem.W.dataLe false fun p : Gt => gD p.2)).map (·.2) = gs2 at gj pg
      have sp := same_upd np (o := .lst xs2)
      refine ⟨p, _, rfl, .inl ⟨SqL.of upd_same, fun t nt => ?_⟩⟩
      have st := same_upd nt (o := .tup xs2)
      refine q t xs2 gs2 _ (SF.trans (sp.trans st)) upd_same (gj.tp (W37.tp_same (sp.trans st))) ⟨fun l hl => cls l (pg.mem_iff.mp hl), pg.nodup_iff.mpr ndg, fun a ha => ?_⟩
      have : a ∈ ss := cov a (by rw [List.take_of_length_le (by omega)]; exact (mem a).mpr ha)
      obtain ⟨l, h1, h2⟩ := (ms a).mp this
      exact ⟨l, pg.mem_iff.mpr h1, h2⟩
end
end N44
set_option Elab.async false
set_option linter.all false
set_option maxRecDepth 100000
set_option maxHeartbeats 4000000
set_option pp.maxSteps 400
set_option pp.deepTerms false
namespace N44
open PySem PySem.Spec PyProof.Rows L2
open Xk Az Xnp
section
variable {P : Program} {w : World} {K : PySem.W.Frag} {mg : Str → Option Value} {base : Heap}
/-- the class of each name -/
def Gps (H : Hp) (g : Addr) (es : List Pair) : Prop := ∃ gkvs : List (List Key × V), H g = some (.dT gkvs) ∧ (∀ a ∈ nodes es, ∃ (t : Addr) (ys : List V) (l : List N2), valV gkvs (key a) = some (.ref t) ∧ H t = some (.tup ys) ∧ W37.NmL H ys l ∧ Xnp.Cls es a l) ∧ ∀ a, a ∉ nodes es → valV gkvs (key a) = none
/-- the links that a book keeps: lists that are fr -/
def Lks (H : Hp) (d : Addr) (es : List Pair) (fr : Addr → Prop) : Prop := ∃ (ks : List N2) (lkvs : List (List Key × V)), H d = some (.dT lkvs) ∧ ks.Nodup ∧ (∀ a, a ∈ ks ↔ a ∈ nodes es) ∧ lkvs.map (·.1) = ks.map key ∧
  ∀ a ∈ ks, ∃ (L : Addr) (ys : List V), valV lkvs (key a) = some (.ref L) ∧ H L = some (.lst ys) ∧ W37.NmL H ys (nb es a) ∧ fr L
def spSort (K : PySem.W.Frag) : Sp := fun vs H Q _ => ∃ (b C dx c : Addr) (fs : List (Str × V)) (kvs : List (Key × V)) (es : List Pair), vs = [.ref b] ∧ H b = some (.ins C dx fs) ∧ L2.Cls K C ∧ NoAttr K C "counting" ∧ NoAttr K C "links" ∧ NoAttr K C "groups" ∧ fs.length < 900 ∧ fs.lookup ("counting" : Str) = some (.ref c) ∧
  H c = some (.dK kvs) ∧ PrL H (kvs.map (·.2)) es ∧ es.length ≤ 100 ∧
  ∀ (d g : Addr) H', H' b = some (.ins C dx (putF "groups" (.ref g) (putF "links" (.ref d) fs))) → (∀ x o, x ≠ b → H x = some o → H' x = some o) → Gps H' g es → Lks H' d es (fun x => H x = none) → Q .non H'
theorem ok_sort {f : Addr} {fd : FuncData} (F : L2.Fun K "sort_out" "Names.sort_out" sNamesSortOut f fd) (T : Txt K mg) (cLi : Ca P w K mg base 1 "linked" ["nodes", "pairs"] (spLinked K)) (cGr : Ca P w K mg base 4 "groups_in" ["links"] spGroups) : FnOk P w K mg base CX0 5 f fd ["self"] (spSort K) := by
  refine F.ok scNamesSortOut (fun vs H Q E h => ?_) (fun cdv A outer s H vs Q E hr h => ?_)
  · obtain ⟨b, C, dx, c, fs, kvs, es, rfl, eb, hC, n1, n2, n3, lf, lc, ec, pP, l100, q⟩ := h
    rfl
  · obtain ⟨b, C, dx, c, fs, kvs, es, rfl, eb, hC, n1, n2, n3, lf, lc, ec, pP, l100, q⟩ := h
    refine ⟨_, (pss_cons (ps_set (i := 1) scNamesSortOut.nd rfl (.inl rfl) (Xvl.pe_listVals (by rfl) (by rfl) T.list (pe_fld (pv 0) rfl)))
      (pss_cons (ps_fld (pv 0) (pe_ca cLi hr (by decide) (by rfl) (pa_cons (pe_lc2 (own := [("pair", 2), ("name", 3)]) (vs1 := [3]) (g := gName 2) (g1 := gName 3) (tt := tYes) (tt1 := tYes) (wi1 := iTup K (tVar 2)) (te := tVar 3) (by rfl) scNamesSortOut.nd (pi_list (pv 1)) (blkOk_by (own := [("pair", 2), ("name", 3)]) (N := ["self", "pairs", "pair", "name", "group"]) (sc := defScope sNamesSortOut) (by decide +kernel)) (by decide) (fun _ _ _ _ _ => pg_name (i := 2) scNamesSortOut.nd rfl (.inl rfl)) (fun _ _ _ _ _ => pts_nil) (fun _ _ _ _ _ => pi_tup (pv 2)) (fun _ _ _ _ _ => pg_name (i := 3) scNamesSortOut.nd rfl (.inl rfl)) (fun _ _ _ _ _ => pts_nil) (fun _ _ _ _ _ => pv 3)) (pa_cons (pv 1) pa_nil))) rfl)
      (pss_one (ps_fld (pv 0) (Xdc.pe_dc2 (own := [("group", 4), ("name", 3)]) (us := [3]) (g := gName 4) (gj := gName 3) (tt := tYes) (tj := tYes) (wj := iTup K (tVar 4)) (tk := tVar 3) (ty := tVar 4) (.dT []) (by simp) hr.units0 (by rfl) scNamesSortOut.nd (pi_tup (pe_ca cGr hr (by decide) (by rfl) (pa_cons (pe_fld (pv 0) rfl) pa_nil))) (blkOk_by (own := [("group", 4), ("name", 3)]) (N := ["self", "pairs", "pair", "name", "group"]) (sc := defScope sNamesSortOut) (by decide +kernel)) (by decide) (fun _ _ _ _ _ => pg_name (i := 4) scNamesSortOut.nd rfl (.inl rfl)) (fun _ _ _ _ _ => pts_nil) (fun _ _ _ _ _ => pi_tup (pv 4)) (fun _ _ _ _ _ => pg_name (i := 3) scNamesSortOut.nd rfl (.inl rfl)) (fun _ _ _ _ _ => pts_nil) (fun _ _ _ _ _ => pv 3) (fun _ _ _ _ _ => pv 4)) rfl)))), ?_⟩
    refine ⟨_, rfl, b, C, dx, fs, .ref c, rfl, eb, hC, n1, lc, c, kvs, rfl, ec, fun P1 nP _ => ?_⟩
    obtain ⟨ps, eps⟩ : ∃ ps, ps = kvs.map (·.2) := ⟨_, rfl⟩
    rw [← eps] at pP
    rw [show kvs.map (fun x => x.2) = ps from eps.symm]
    have sP := same_upd nP (o := .lst ps)
    have eP : (L2.upd H P1 (.lst ps)) P1 = some (.lst ps) := upd_same
    have eb1 := sP _ _ eb
    have pP1 := pP.tp (W37.tp_same sP)
    generalize L2.upd H P1 (.lst ps) = H1 at sP eP eb1 pP1 ⊢
    have pl := pP1.len
    -- all names of the pairs
    refine ⟨_, rfl, P1, rfl, ⟨_, SqL.of eP⟩, fun D nD => ?_⟩
    refine Xdc.goes (walk_list (K := K) (a := P1) (xs := ps)) (fun i Hi => L2.Same H1 Hi ∧ ∃ ys, Hi D = some (.lst ys) ∧ W37.NmL Hi ys (nodes (es.take i))) ⟨same_upd nD, [], upd_same, .nil⟩ (fun i Hi _ z => SqL.of (z.1 _ _ eP)) ?_ ?_
    · rintro i x Hi H' il ⟨sm, ys, eD, ny⟩ ⟨rfl, hx⟩
      obtain ⟨p, t, va, vb, ep, rfl, et, na, nb'⟩ := pP1.get hx
      have et1 := sm _ _ et
      have na := na.tp (W37.tp_same sm)
      have nb' := nb'.tp (W37.tp_same sm)
      have yl := ny.len
      have nl := nodes_len (es.take i)
      have tl : (es.take i).length ≤ 100 := by rw [List.length_take]; omega
      refine ⟨rfl, ?_⟩
      unfold tYes
      refine iteT ?_
      refine ⟨_, rfl, t, rfl, ⟨_, SqT.of et1⟩, ?_⟩
      refine Xdc.goes (g := gName 3) (tt := tYes) (B := fun N σ H => tVar 3 σ H fun y H7 => ∃ acc, H7 D = some (.lst acc) ∧ acc.length < sizeLine ∧ N (upd H7 D (.lst (acc ++ [y])))) (walk_tup (K := K) (a := t) (xs := [va, vb])) (fun j Hj => L2.Same H1 Hj ∧ W37.Tp H' Hj ∧ Hj D = some (.lst (ys ++ [va, vb].take j))) ⟨sm, fun _ _ e => e, by simpa using eD⟩ (fun j Hj _ z => SqT.of (z.1 _ _ et)) ?_ ?_
      · rintro j x Hj H'' jl ⟨sj, tj, eDj⟩ ⟨rfl, hxj⟩
        refine ⟨rfl, ?_⟩
        unfold tYes
        refine iteT ⟨_, rfl, _, eDj, ?_, fun b2 o e => ?_, tj.trans (W37.tp_upd fun us z => by rw [eDj] at z; cases z), ?_⟩
        · rw [List.length_append, List.length_take]
          have q1 : min j [va, vb].length ≤ 2 := Nat.min_le_right _ _
          exact Nat.lt_of_le_of_lt (show _ ≤ 300 by omega) (by decide)
        · rw [upd_ne (ne_of_none e nD)]
          exact sj _ _ e
        · rw [upd_same, List.take_add_one, hxj, List.append_assoc]
          rfl
      · rintro Hj ⟨sj, tj, eDj⟩
        refine ⟨sj, _, eDj, ?_⟩
        rw [List.take_add_one, ep]
        show W37.NmL Hj (ys ++ [va, vb]) (nodes (es.take i ++ [p]))
        unfold nodes
        rw [List.flatMap_append]
        exact (ny.tp tj).app (.cons (na.tp tj) (.cons (nb'.tp tj) .nil))
    rintro H2 ⟨s2, ys, eD, ny⟩
    rw [List.take_of_length_le (by omega)] at ny
    have eP2 := s2 _ _ eP
    have eb2 := s2 _ _ eb1
    refine ⟨_, rfl, D, P1, ys, ps, es, rfl, SqL.of eD, ny, SqL.of eP2, pP1.tp (W37.tp_same s2), l100, fun d ks lkvs H3 s3 nd mem ed3 lk => ?_⟩
    have eb3 := s3 _ _ eb2
    refine ⟨_, rfl, b, C, dx, fs, rfl, eb3, hC, n2, by omega, ?_⟩
    obtain ⟨fs2, efs⟩ : ∃ fs2, fs2 = putF "links" (.ref d) fs := ⟨_, rfl⟩
    replace q := q d
    rw [← efs] at q ⊢
    have lf2 : fs2.length ≤ 901 := by
      have := length_putF "links" (.ref d) fs
      rw [efs]
      omega
    have ll2 : fs2.lookup ("links" : Str) = some (.ref d) := by
      rw [efs, lookup_putF, if_pos rfl]
    have s03 : L2.Same H H3 := (sP.trans s2).trans s3
    have n02 : ∀ x, H2 x = none → H x = none := fun x nx => by
      cases e : H x with
      | none => rfl
      | some o => rw [(sP.trans s2) _ _ e] at nx; cases nx
    have nt : ∀ xs, H3 b ≠ some (.tup xs) := fun xs z => by rw [eb3] at z; cases z
    have tp4 : W37.Tp H3 (L2.upd H3 b (.ins C dx fs2)) := W37.tp_upd nt
    have eb4 : (L2.upd H3 b (.ins C dx fs2)) b = some (.ins C dx fs2) := upd_same
    have ed4 : (L2.upd H3 b (.ins C dx fs2)) d = some (.dT lkvs) := by rw [upd_ne (ne_of ed3 eb3 (by intro z; cases z))]; exact ed3
    have lk4 : Lnk H2 (L2.upd H3 b (.ins C dx fs2)) d ks es := by
      obtain ⟨kv0, r0, e0, al⟩ := lk.ex
      have : kv0 = lkvs := by
        rcases r0 with z | ⟨o, z⟩
        · rw [ed3] at z; cases z; rfl
        · rw [ed3] at z; cases z
      subst this
      refine ⟨kv0, .inl ed4, e0, fun a ha => ?_⟩
      obtain ⟨L, ys, h1, h2, h3, h4⟩ := al a ha
      exact ⟨L, ys, h1, by rw [upd_ne (ne_of h2 eb3 (by intro z; cases z))]; exact h2, h3.tp tp4, h4⟩
    have b04 : ∀ x o, x ≠ b → H x = some o → (L2.upd H3 b (.ins C dx fs2)) x = some o := fun x o n e => by rw [upd_ne n]; exact s03 _ _ e
    generalize L2.upd H3 b (.ins C dx fs2) = H4 at eb4 ed4 lk4 b04 ⊢
    refine ⟨_, rfl, b, C, dx, fs2, .ref d, rfl, eb4, hC, n2, ll2, H2, d, es, ks, lkvs, rfl, lk4, ed4, nd, mem, l100, fun t xs gs H5 s5 et gr grp => ⟨t, rfl, ⟨_, SqT.of et⟩, fun G nG => ?_⟩⟩
    obtain ⟨ts, et1, et2, hts⟩ := gr.split
    have inn : ∀ l ∈ gs, ∀ a ∈ l, a ∈ nodes es ∧ Xnp.Cls es a l := fun l hl a ha => by
      obtain ⟨a0, h0, c⟩ := grp.cls l hl
      have r := (c.mem a).mp ha
      refine ⟨?_, c.of r⟩
      rcases rch_in r with rfl | z
      · exact h0
      · exact z
    have gxl := gr.len
    refine Xdc.goes (walk_tup (K := K) (a := t) (xs := xs)) (fun i Hi => L2.Same H5 Hi ∧ ∃ (gkvs : List (List Key × V)) (gks : List N2), Hi G = some (.dT gkvs) ∧ gkvs.map (·.1) = gks.map key ∧ gks.Nodup ∧ (∀ a, a ∈ gks ↔ ∃ l ∈ gs.take i, a ∈ l) ∧
      ∀ a ∈ gks, ∃ (u : Addr) (zs : List V) (l : List N2), valV gkvs (key a) = some (.ref u) ∧ H5 u = some (.tup zs) ∧ W37.NmL H5 zs l ∧ Xnp.Cls es a l) ⟨same_upd nG, [], [], upd_same, rfl, List.nodup_nil, fun a => by simp, fun a h => by cases h⟩ (fun i Hi _ z => SqT.of (z.1 _ _ et)) ?_ ?_
    · rintro i x Hi H' il ⟨sm, gkvs, gks, eG, ek, ndk, mk, al⟩ ⟨rfl, hx⟩
      obtain ⟨p, hp, rfl⟩ : ∃ p, ts[i]? = some p ∧ x = p.1 := by
        rw [← et1, List.getElem?_map] at hx
        obtain ⟨p, h1, h2⟩ := Option.map_eq_some_iff.mp hx
        exact ⟨p, h1, h2.symm⟩
      obtain ⟨u, zs, e1, e2, e3⟩ := hts p (List.mem_of_getElem? hp)
      obtain ⟨v0, l⟩ := p
      have e1 : v0 = .ref u := e1
      have e3 : W37.NmL H5 zs l := e3
      subst e1
      have gl : gs[i]? = some l := by rw [← et2, List.getElem?_map, hp]; rfl
      have lg := List.mem_of_getElem? gl
      have e2' := sm _ _ e2
      refine ⟨rfl, ?_⟩
      unfold tYes
      refine iteT ⟨_, rfl, u, rfl, ⟨_, SqT.of e2'⟩, ?_⟩
      refine Xdc.goes (g := gName 3) (tt := tYes) (B := fun N σ H => tVar 3 σ H fun y H7 => tVar 4 σ H7 fun z H8 => ∃ H9, DPut H8 G y z H9 ∧ N H9) (walk_tup (K := K) (a := u) (xs := zs)) (fun j Hj => L2.Same H5 Hj ∧ ∃ (gk2 : List (List Key × V)) (ks2 : List N2), Hj G = some (.dT gk2) ∧ gk2.map (·.1) = ks2.map key ∧ ks2.Nodup ∧ (∀ a, a ∈ ks2 ↔ a ∈ gks ∨ a ∈ l.take j) ∧
        ∀ a ∈ ks2, ∃ (u : Addr) (zs : List V) (l : List N2), valV gk2 (key a) = some (.ref u) ∧ H5 u = some (.tup zs) ∧ W37.NmL H5 zs l ∧ Xnp.Cls es a l) ⟨sm, gkvs, gks, eG, ek, ndk, fun a => by simp, al⟩ (fun j Hj _ z => SqT.of (z.1 _ _ e2)) ?_ ?_
      · rintro j y Hj H'' jl ⟨sj, gk2, ks2, eGj, ek2, nd2, mk2, al2⟩ ⟨rfl, hy⟩
        obtain ⟨c2, ec2, tc, rfl, etc⟩ := e3.get hy
        have ks2n : ∀ a ∈ ks2, a ∈ nodes es := fun a ha => by
          obtain ⟨_, _, l', _, _, _, c'⟩ := al2 a ha
          rcases (mk2 a).mp ha with z | z
          · obtain ⟨l2, h1, h2⟩ := (mk a).mp z
            exact (inn l2 (List.mem_of_mem_take h1) a h2).1
          · exact (inn l lg a (List.mem_of_mem_take z)).1
        have kl : gk2.length ≤ 200 := by
          have h1 := congrArg List.length ek2
          rw [List.length_map, List.length_map] at h1
          have h2 := nd_len nd2 ks2n
          have h3 := nodes_len es
          omega
        refine ⟨rfl, ?_⟩
        unfold tYes
        refine iteT ⟨_, rfl, _, rfl, _, DPut.t (b := tc) (k := key c2) eGj (sj _ _ etc) (Nat.lt_of_le_of_lt kl (by decide)), fun x o e => ?_, putK gk2 (key c2) (.ref u), ins ks2 c2, upd_same, keys_put ek2, ins_nd nd2, fun a => ?_, fun a ha => ?_⟩
        · rw [upd_ne (ne_of_none e nG)]
          exact sj _ _ e
        · rw [mem_ins, mk2, List.take_add_one, ec2, List.mem_append]
          show _ ↔ a ∈ gks ∨ (a ∈ l.take j ∨ a ∈ [c2])
          rw [List.mem_singleton, or_assoc]
        · rw [valV_put]
          by_cases c : a = c2
          · subst c
            rw [if_pos rfl]
            exact ⟨u, zs, l, rfl, e2, e3, (inn l lg a (List.mem_of_getElem? ec2)).2⟩
          · rw [if_neg fun z => c (key_inj z)]
            exact al2 a ((mem_ins.mp ha).resolve_right c)
      · rintro Hj ⟨sj, gk2, ks2, eGj, ek2, nd2, mk2, al2⟩
        rw [List.take_of_length_le (by rw [← e3.len]; exact Nat.le_refl _)] at mk2
        refine ⟨sj, gk2, ks2, eGj, ek2, nd2, fun a => ?_, al2⟩
        rw [mk2, mk, List.take_add_one, gl]
        constructor
        · rintro (⟨l', h1, h2⟩ | h)
          · exact ⟨l', List.mem_append_left _ h1, h2⟩
          · exact ⟨l, List.mem_append_right _ (by simp), h⟩
        · rintro ⟨l', h1, h2⟩
          rcases List.mem_append.mp h1 with z | z
          · exact .inl ⟨l', z, h2⟩
          · have z : l' ∈ [l] := z
            rw [List.mem_singleton.mp z] at h2
            exact .inr h2
    rintro He ⟨se, gkvs, gks, eG, ek, ndk, mk, al⟩
    rw [List.take_of_length_le (by omega)] at mk
    have eb6 := se _ _ (s5 _ _ eb4)
    refine ⟨_, rfl, b, C, dx, fs2, rfl, eb6, hC, n3, by omega, q G _ upd_same (fun x o n e => by rw [upd_ne n]; exact se _ _ (s5 _ _ (b04 x o n e))) ⟨gkvs, ?_, fun a ha => ?_, fun a ha => ?_⟩ ?_⟩
    · rw [upd_ne (ne_of eG eb6 (by intro z; cases z))]
      exact eG
    · obtain ⟨l, h1, h2⟩ := grp.all a ha
      obtain ⟨u, zs, l', e1, e2, e3, c⟩ := al a ((mk a).mpr ⟨l, h1, h2⟩)
      have tpe : W37.Tp He (L2.upd He b (.ins C dx (putF "groups" (.ref G) fs2))) := W37.tp_upd fun us z => by rw [eb6] at z; cases z
      exact ⟨u, zs, l', e1, tpe _ _ (se _ _ e2), e3.tp ((W37.tp_same se).trans tpe), c⟩
    · cases e : valV gkvs (key a) with
      | none => rfl
      | some v =>
        have h := keys_any (a := a) ek
        rw [e] at h
        have h : true = decide (a ∈ gks) := h
        have : a ∈ gks := of_decide_eq_true h.symm
        obtain ⟨l, h1, h2⟩ := (mk a).mp this
        exact absurd (inn l h1 a h2).1 ha
    · obtain ⟨kv0, r0, e0, al4⟩ := lk4.ex
      have ed6 : (L2.upd He b (.ins C dx (putF "groups" (.ref G) fs2))) d = some (.dT lkvs) := by
        rw [upd_ne (ne_of (se _ _ (s5 _ _ ed4)) eb6 (by intro z; cases z))]
        exact se _ _ (s5 _ _ ed4)
      have : kv0 = lkvs := by
        rcases r0 with z | ⟨o, z⟩
        · rw [ed4] at z; cases z; rfl
        · rw [ed4] at z; cases z
      subst this
      refine ⟨ks, kv0, ed6, nd, mem, e0, fun a ha => ?_⟩
      obtain ⟨L, ys, h1, h2, h3, h4⟩ := al4 a ha
      have h2' := se _ _ (s5 _ _ h2)
      have tpe : W37.Tp He (L2.upd He b (.ins C dx (putF "groups" (.ref G) fs2))) := W37.tp_upd fun us z => by rw [eb6] at z; cases z
      exact ⟨L, ys, h1, by rw [upd_ne (ne_of h2' eb6 (by intro z; cases z))]; exact h2', h3.tp (((W37.tp_same s5).trans (W37.tp_same se)).trans tpe), n02 L h4⟩
end
end N44
set_option Elab.async false
set_option linter.all false
set_option maxRecDepth 100000
set_option maxHeartbeats 4000000
set_option pp.maxSteps 400
set_option pp.deepTerms false
namespace N44
open PySem PySem.Spec PyProof.Rows L2
open Xk Az Xnp
section
variable {P : Program} {w : World} {K : PySem.W.Frag} {mg : Str → Option Value} {base : Heap}
/-- a method of the class at C -/
structure Mt (P : Program) (w : World) (K : PySem.W.Frag) (mg : Str → Option Value) (base : Heap) (k : Nat) (C : Addr) (m : Str) (ps : List Str) (sp : Sp) : Prop where
  ex : ∃ (f : Addr) (fd : FuncData), Meth K C m f ∧ FnOk P w K mg base CX0 k f fd ps sp ∧ Binds K fd ps []
def spClassOf (C : Addr) : Sp := fun vs H Q _ => ∃ (b dx g : Addr) (fs : List (Str × V)) (v : V) (es : List Pair) (a : N2), vs = [.ref b, v] ∧ H b = some (.ins C dx fs) ∧ fs.lookup ("groups" : Str) = some (.ref g) ∧ Gps H g es ∧ W37.NmV H v a ∧
  ∀ (t : Addr) (ys : List V) (l : List N2) H', L2.Same H H' → H' t = some (.tup ys) → W37.NmL H' ys l → Xnp.Cls es a l → Q (.ref t) H'
theorem ok_cof {f : Addr} {fd : FuncData} {C : Addr} (F : L2.Fun K "class_of" "Names.class_of" sNamesClassOf f fd) (hC : L2.Cls K C) (n3 : NoAttr K C "groups") : FnOk P w K mg base CX0 1 f fd ["self", "name"] (spClassOf C) := by
  refine F.ok scNamesClassOf (fun vs H Q E h => ?_) (fun cdv A outer s H vs Q E hr h => ?_)
  · obtain ⟨b, dx, g, fs, v, es, a, rfl, eb, lg, gp, nv, q⟩ := h
    rfl
  · obtain ⟨b, dx, g, fs, v, es, a, rfl, eb, lg, gp, nv, q⟩ := h
    refine ⟨_, (pss_one (ps_ret ((pe_dget2 (hu_of hr) (pe_fld (pv 0) rfl) (pv 1) (pe_tup (pa_cons (pv 1) pa_nil)) ⟨rfl, rfl, rfl, rfl⟩)))), ?_⟩
    obtain ⟨gkvs, eg, gall, gno⟩ := gp
    obtain ⟨ta, rfl, eta⟩ := nv
    refine ⟨_, rfl, b, C, dx, fs, .ref g, rfl, eb, hC, n3, lg, g, rfl, .inr ⟨gkvs, Rd.of eg⟩, _, rfl, _, rfl, (by show 1 ≤ sizeLine; decide), fun T1 nT => ?_⟩
    have sT := same_upd nT (o := .tup [.ref ta])
    have eT : (L2.upd H T1 (.tup [.ref ta])) T1 = some (.tup [.ref ta]) := upd_same
    refine ⟨_, DGet.t (b := ta) (k := key a) (sT _ _ eg) (sT _ _ eta), ?_⟩
    by_cases m : a ∈ nodes es
    · obtain ⟨t, ys, l, e1, e2, e3, c⟩ := gall a m
      rw [e1]
      exact q t ys l _ sT (sT _ _ e2) (e3.tp (W37.tp_same sT)) c
    · rw [gno a m]
      exact q T1 [.ref ta] [a] _ sT eT (.cons ⟨ta, rfl, sT _ _ eta⟩ .nil) (Cls.alone m)
end
end N44
set_option Elab.async false
set_option linter.all false
set_option maxRecDepth 100000
set_option maxHeartbeats 4000000
set_option pp.maxSteps 400
set_option pp.deepTerms false
namespace N44
open PySem PySem.Spec PyProof.Rows L2
open Xk Az
section
variable {P : Program} {w : World} {K : PySem.W.Frag} {mg : Str → Option Value} {base : Heap}
section
variable {X : Cx}
theorem cr_alt {f : Value} {r1 r2 : List V → Hp → VK → Prop} (h1 : CallR X f r1) (h2 : CallR X f r2) : CallR X f (fun xs H Q => r1 xs H Q ∨ r2 xs H Q) :=
  fun pins s σ H xs us Q I r h => h.elim (h1 pins s σ H xs us Q I r) (h2 pins s σ H xs us Q I r)
end
def spPick : Sp := fun vs H Q _ => ∃ (h o : Addr) (n : Int) (s : V), vs = [.ref h, s] ∧ Hd h o n H ∧ n ≤ far ∧
  ((∃ (l : Addr) (xs : List V), s = .ref l ∧ H l = some (.lst xs) ∧ l ∉ [h, o] ∧ xs ≠ [] ∧ xs.length < 1000 ∧ ∀ v H', v ∈ xs → Hd h o (n + 1) H' → Bt [h, o] H H' → Q v H') ∨
   (∃ x : Str, s = .str x ∧ 0 < x.length ∧ x.length < 1000 ∧ ∀ c H', c ∈ x.cps.toList → Hd h o (n + 1) H' → Bt [h, o] H H' → Q (.str ⟨#[c]⟩) H') ∨
   (∃ (l : Addr) (xs : List V), s = .ref l ∧ H l = some (.tup xs) ∧ xs ≠ [] ∧ xs.length < 1000 ∧ ∀ v H', v ∈ xs → Hd h o (n + 1) H' → Bt [h, o] H H' → Q v H'))
theorem join_cps' : ∀ ys : List Str, (Str.join "" ys).cps.toList = (ys.map fun y => y.cps.toList).flatten
  | [] => rfl
  | [x] => by simp [Str.join]
  | x :: z :: r => by
    show (x ++ "" ++ Str.join "" (z :: r)).cps.toList = _
    rw [Str.cps_append, Array.toList_append, Str.cps_append, Array.toList_append, join_cps' (z :: r)]
    have e0 : (("" : Str)).cps.toList = [] := rfl
    rw [e0, List.append_nil]
    rfl
theorem join_cps (ys : List Str) : (Txt.join "" ys).cps.toList = (ys.map fun y => y.cps.toList).flatten := by
  rw [TL.join_eq]
  exact join_cps' ys
theorem len_cps (x : Str) : x.length = x.cps.toList.length := by
  rw [Array.length_toList]
  rfl
theorem join_len (ys : List Str) : (Txt.join "" ys).length = (ys.map (·.length)).sum := by
  rw [len_cps, join_cps, List.length_flatten, List.map_map]
  congr 1
theorem ones_sum : ∀ ys : List Str, (∀ y ∈ ys, y.length = 1) → (ys.map (·.length)).sum = ys.length
  | [], _ => rfl
  | y :: r, h => by
    rw [List.map_cons, List.sum_cons, h y List.mem_cons_self, ones_sum r (fun z hz => h z (List.mem_cons_of_mem _ hz)), List.length_cons]
    omega
def letts (x : Str) : Prop := ∀ c ∈ x.cps.toList, c ∈ small.cps.toList
def spWord : Sp := fun vs H Q _ => ∃ (h o : Addr) (n a b : Int), vs = [.ref h, .int a, .int b] ∧ 0 ≤ a ∧ a ≤ b ∧ b ≤ 50 ∧ Hd h o n H ∧ n + 100 ≤ far ∧
  ∀ (x : Str) H', a ≤ x.length → x.length ≤ b → letts x → Hd h o (n + 60) H' → Bt [h, o] H H' → Q (.str x) H'
end
end N44
set_option Elab.async false
set_option linter.all false
set_option maxRecDepth 100000
set_option maxHeartbeats 4000000
set_option pp.maxSteps 400
set_option pp.deepTerms false
namespace N44
open PySem PySem.Spec PyProof.Rows L2
open Xk Az
section
variable {P : Program} {w : World} {K : PySem.W.Frag} {mg : Str → Option Value} {base : Heap}
def lawSigns : Str := "abcdefghijklmnopqrstuvwxyzABCDEFGHIJKLMNOPQRSTUVWXYZ0123456789'-.     "
theorem lawSigns_in : ∀ c ∈ lawSigns.cps.toList, c ∈ signs.cps.toList := by decide +kernel
/-- a text of a name as far as it is written -/
def Half (l : List Nat) : Prop := (∀ c ∈ l, c ∈ signs.cps.toList) ∧ l.head? ≠ some 32 ∧ ∀ i, ¬ (l[i]? = some 32 ∧ l[i + 1]? = some 32)
def Clean (l : List Nat) : Prop := Half l ∧ l.getLast? ≠ some 32
theorem half_nil : Half [] := ⟨by simp, by simp, by simp⟩
theorem Half.snoc {l : List Nat} {c : Nat} (h : Half l) (m : c ∈ signs.cps.toList) (e : c = 32 → l ≠ [] ∧ l.getLast? ≠ some 32) : Half (l ++ [c]) := by
  obtain ⟨h1, h2, h3⟩ := h
  refine ⟨fun d hd => ?_, ?_, fun i => ?_⟩
  · rcases List.mem_append.mp hd with z | z
    · exact h1 d z
    · rw [List.mem_singleton.mp z]; exact m
  · cases l with
    | nil =>
      intro z
      have : c = 32 := by simpa using z
      exact (e this).1 rfl
    | cons a r => simpa using h2
  · rintro ⟨e1, e2⟩
    by_cases il : i + 1 < l.length
    · rw [List.getElem?_append_left (by omega)] at e1
      rw [List.getElem?_append_left il] at e2
      exact h3 i ⟨e1, e2⟩
    · by_cases ie : i + 1 = l.length
      · rw [List.getElem?_append_right (by omega)] at e2
        rw [List.getElem?_append_left (by omega)] at e1
        have z : i + 1 - l.length = 0 := by omega
        rw [z] at e2
        have : c = 32 := by simpa using e2
        refine (e this).2 ?_
        rw [List.getLast?_eq_getElem?, show l.length - 1 = i by omega]
        exact e1
      · rw [List.getElem?_eq_none (by simp; omega)] at e2
        cases e2
theorem at_last {l : List Nat} (h : l ≠ []) : atI l (-1) = l.getLast? := by
  have p : 0 < l.length := List.length_pos_iff.mpr h
  unfold atI ixN
  rw [if_neg (by omega), if_pos (by omega)]
  rw [List.getLast?_eq_getElem?]
  simp only [Option.bind_some]
  congr 1
  omega
theorem one_inj {c d : Nat} (h : (⟨#[c]⟩ : Str) = ⟨#[d]⟩) : c = d := by
  injection h with h
  simpa using h
theorem str_nil {x : Str} (h : x.cps.toList = []) : x = "" := by
  obtain ⟨a⟩ := x
  have : a = #[] := by simpa using h
  rw [this]
  rfl
def spText : Sp := fun vs H Q _ => ∃ (h o : Addr) (n many : Int), vs = [.ref h, .int many] ∧ 0 ≤ many ∧ many ≤ 60 ∧ Hd h o n H ∧ n + 200 ≤ far ∧
  ∀ (x : Str) H', (x.length : Int) = many → Clean x.cps.toList → Hd h o (n + 60) H' → Bt [h, o] H H' → Q (.str x) H'
end
end N44
set_option Elab.async false
set_option linter.all false
set_option maxRecDepth 100000
set_option maxHeartbeats 4000000
set_option pp.maxSteps 400
set_option pp.deepTerms false
namespace N44
open PySem PySem.Spec PyProof.Rows L2
open Xk Az
section
variable {P : Program} {w : World} {K : PySem.W.Frag} {mg : Str → Option Value} {base : Heap}
section
variable {X : Cx}
theorem vals_map {α : Type} (g : α → V) (R : α → Value → Prop) (hR : ∀ a v, R a v → RelV (g a) v) : ∀ (as : List α) (us : List Value), as.length = us.length → (∀ (i : Nat) (a : α) (u : Value), as[i]? = some a → us[i]? = some u → R a u) → Vals (as.map g) us
  | [], [], _, _ => .nil
  | a :: as, u :: us, hl, h => .cons (hR a u (h 0 a u rfl rfl)) (vals_map g R hR as us (by simpa using hl) fun i b v e1 e2 => h (i + 1) b v (by simpa using e1) (by simpa using e2))
  | [], _ :: _, hl, _ => by simp at hl
  | _ :: _, [], hl, _ => by simp at hl
def sg1 (c : Nat) : V := .str ⟨#[c]⟩
theorem cr_listS (hc : X.calm = true) : CallR X (.type "list") (fun xs H Q => ∃ x : Str, xs = [.str x] ∧ x.length ≤ sizeLine ∧ ∀ l, H l = none → Q (.ref l) (upd H l (.lst (x.cps.toList.map sg1)))) := by
  intro pins s σ H xs us Q I r h
  obtain ⟨x, rfl, hz, q⟩ := h
  obtain ⟨u, rfl, rx⟩ := vals1 r
  obtain ⟨t, rfl⟩ := rx
  refine call_list_str (I.ok.hd hc) x t (fun h' tk acc c kp e it => ?_) hz
  have v : Vals (x.cps.toList.map sg1) acc.toList := by
    refine vals_map sg1 (fun c u => ∃ t, u = Value.str ⟨#[c]⟩ t) (fun a v ⟨t, e⟩ => ⟨t, e⟩) _ _ (by rw [Array.length_toList, Array.length_toList, it.1]) fun i a u e1 e2 => ?_
    obtain ⟨c', t', q1, q2⟩ := it.2 i u (by rw [← Array.getElem?_toList]; exact e2)
    rw [← Array.getElem?_toList, e1] at q1
    exact ⟨t', by rw [Option.some.inj q1]; exact q2⟩
  have hl : (x.cps.toList.map sg1).length ≤ sizeLine := by rw [List.length_map, Array.length_toList]; exact hz
  exact ⟨.ref s.heap.objs.size, _, I.laid (t' := tk) kp (Nat.le_refl _) (show ObjOk X.prog X.w _ h' _ (.lst (x.cps.toList.map sg1)) from ⟨hl, acc.toList, c, v, by simpa using e⟩), rfl, q _ (I.hok.fresh (Nat.le_refl _))⟩
end
theorem Bt.none {A : List Addr} {H H' : Hp} {p : Addr} (b : Bt A H H') (m : p ∉ A) (e : H' p = none) : H p = none := by
  cases z : H p with
  | none => rfl
  | some x =>
    rw [b p x m z] at e
    cases e
/-- tuples stand -/
def Tp (H H' : Hp) : Prop := ∀ b xs, H b = some (.tup xs) → H' b = some (.tup xs)
theorem Hd.tp {h o : Addr} {n : Int} {H H' : Hp} (a : Hd h o n H) (s : Bt [h, o] H H') : Tp H H' := fun b xs e => by
  obtain ⟨gs, m, c, r1, r2, _⟩ := a
  refine s b _ (fun mb => ?_) e
  simp only [List.mem_cons, List.not_mem_nil, or_false] at mb
  rcases mb with z | z
  · rw [z, r1] at e; cases e
  · rw [z, r2] at e; cases e
theorem tp_upd {H : Hp} {p : Addr} {xs : List V} {x : HO} (e : H p = some (.lst xs)) : Tp H (upd H p x) := fun b ys eb => by
  rw [upd_ne (fun z => by rw [z, e] at eb; cases eb)]
  exact eb
theorem tp_same {H H' : Hp} (s : L2.Same H H') : Tp H H' := fun b ys e => s b _ e
theorem Tp.trans {H H1 H2 : Hp} (p : Tp H H1) (q : Tp H1 H2) : Tp H H2 := fun b xs e => q b xs (p b xs e)
def Nm (H : Hp) (v : V) : Prop := ∃ (t : Addr) (a b : Str), v = .ref t ∧ H t = some (.tup [.str a, .str b]) ∧ letts a ∧ 2 ≤ a.length ∧ a.length ≤ 3 ∧ Clean b.cps.toList ∧ 1 ≤ b.length ∧ b.length ≤ 40
theorem Nm.tp {H H' : Hp} {v : V} (a : Nm H v) (s : Tp H H') : Nm H' v := by
  obtain ⟨t, x, y, e, r1, r⟩ := a
  exact ⟨t, x, y, e, s _ _ r1, r⟩
def alnum : Str := "abcdefghijklmnopqrstuvwxyzABCDEFGHIJKLMNOPQRSTUVWXYZ0123456789"
theorem alnum_ok : ∀ c ∈ alnum.cps.toList, c ∈ signs.cps.toList ∧ c ≠ 32 := by decide +kernel
theorem ins_cps {st : Str} {k c : Nat} (h : k ≤ st.cps.toList.length) : (cutS st none (some (k : Int)) ++ ⟨#[c]⟩ ++ cutS st (some (k : Int)) none).cps.toList = st.cps.toList.take k ++ c :: st.cps.toList.drop k := by
  rw [len_cps st |>.symm] at h
  rw [Str.cps_append, Array.toList_append, Str.cps_append, Array.toList_append]
  have e1 : HT.sIx st.length 0 (some (k : Int)) = k := by rw [HT.sIx_nat]; omega
  have e2 : HT.sIx st.length st.length (some (k : Int)) = k := by rw [HT.sIx_nat]; omega
  have e3 : HT.sIx st.length 0 none = 0 := rfl
  have e4 : HT.sIx st.length st.length none = st.length := rfl
  unfold cutS
  rw [e1, e2, e3, e4]
  simp only [List.drop_zero, Nat.sub_zero, List.append_assoc, List.singleton_append]
  congr 2
  rw [List.take_of_length_le (by rw [List.length_drop, ← len_cps]; omega)]
theorem ins_len {st : Str} {k c : Nat} (h : k ≤ st.cps.toList.length) : (cutS st none (some (k : Int))).length + (cutS st (some (k : Int)) none).length ≤ st.length ∧ (cutS st none (some (k : Int))).length ≤ st.length ∧ (cutS st none (some (k : Int)) ++ ⟨#[c]⟩ ++ cutS st (some (k : Int)) none).length = st.length + 1 := by
  have e := congrArg List.length (ins_cps (c := c) h)
  have l1 : (cutS st none (some (k : Int)) ++ ⟨#[c]⟩ ++ cutS st (some (k : Int)) none).length = st.length + 1 := by
    rw [len_cps, e, List.length_append, List.length_cons, List.length_take, List.length_drop, len_cps st]
    omega
  rw [strLen_append, strLen_append] at l1
  have o1 : (⟨#[c]⟩ : Str).length = 1 := rfl
  rw [strLen_append, strLen_append]
  omega
theorem ins_at {l : List Nat} {k c : Nat} (hk : k ≤ l.length) (i : Nat) : (l.take k ++ c :: l.drop k)[i]? = if i < k then l[i]? else if i = k then some c else l[i - 1]? := by
  rw [List.getElem?_append, List.length_take, Nat.min_eq_left hk]
  split
  · rename_i h
    rw [List.getElem?_take, if_pos h]
  · split
    · rename_i h
      rw [h, Nat.sub_self]
      rfl
    · rw [show i - k = (i - 1 - k) + 1 by omega, List.getElem?_cons_succ, List.getElem?_drop]
      congr 1
      omega
theorem Clean.ins {l : List Nat} {k c : Nat} (h : Clean l) (hk : k ≤ l.length) (m : c ∈ signs.cps.toList) (ne : c ≠ 32) : Clean (l.take k ++ c :: l.drop k) := by
  obtain ⟨⟨h1, h2, h3⟩, h4⟩ := h
  have nc : some c ≠ some 32 := fun z => ne (Option.some.inj z)
  refine ⟨⟨fun d hd => ?_, ?_, fun i => ?_⟩, ?_⟩
  · rcases List.mem_append.mp hd with z | z
    · exact h1 d (List.mem_of_mem_take z)
    · rcases List.mem_cons.mp z with z | z
      · rw [z]; exact m
      · exact h1 d (List.mem_of_mem_drop z)
  · rw [List.head?_eq_getElem?, ins_at hk]
    rw [List.head?_eq_getElem?] at h2
    split
    · exact h2
    · split
      · exact nc
      · omega
  · rw [ins_at hk, ins_at hk]
    rintro ⟨e1, e2⟩
    by_cases a : i + 1 < k
    · rw [if_pos (by omega)] at e1
      rw [if_pos a] at e2
      exact h3 i ⟨e1, e2⟩
    · by_cases b : i + 1 = k
      · rw [if_neg (by omega), if_pos b] at e2
        exact nc e2
      · by_cases d : i = k
        · rw [if_neg (by omega), if_pos d] at e1
          exact nc e1
        · rw [if_neg (by omega), if_neg d] at e1
          rw [if_neg (by omega), if_neg (by omega), show i + 1 - 1 = (i - 1) + 1 by omega] at e2
          exact h3 (i - 1) ⟨e1, e2⟩
  · rw [List.getLast?_eq_getElem?, List.length_append, List.length_cons, List.length_take, List.length_drop, Nat.min_eq_left hk, show k + (l.length - k + 1) - 1 = l.length by omega, ins_at hk]
    rw [List.getLast?_eq_getElem?] at h4
    rw [if_neg (by omega)]
    split
    · exact nc
    · exact h4
theorem erase_map {α β : Type} (f : α → β) : ∀ (l : List α) (j : Nat), (l.map f).eraseIdx j = (l.eraseIdx j).map f
  | [], _ => rfl
  | _ :: _, 0 => rfl
  | a :: r, j + 1 => by
    show f a :: (r.map f).eraseIdx j = f a :: (r.eraseIdx j).map f
    rw [erase_map f r j]
def Asc7 (x : Str) : Prop := ∀ c ∈ x.cps.toList, c < 128
theorem Asc7.ok {x : Str} (h : Asc7 x) : PyData.strOk x = true := by
  unfold PyData.strOk
  rw [← Array.all_toList, List.all_eq_true]
  intro c hc
  exact decide_eq_true (Nat.lt_of_lt_of_le (h c hc) (by decide))
theorem small7 : ∀ c ∈ small.cps.toList, c < 128 := by decide +kernel
theorem signs7 : ∀ c ∈ signs.cps.toList, c < 128 := by decide +kernel
theorem letts.asc {x : Str} (h : letts x) : Asc7 x := fun c hc => small7 c (h c hc)
theorem Clean.asc {x : Str} (h : Clean x.cps.toList) : Asc7 x := fun c hc => signs7 c (h.1.1 c hc)
theorem names_dp {H : Hp} : ∀ xs : List V, (∀ v ∈ xs, Nm H v) → ∃ ds, DpAll K H xs ds ∧ PyData.canLayAll0 ds = true ∧ PyData.depthAll ds ≤ 3
  | [], _ => ⟨[], .nil, by simp [PyData.canLayAll0], by simp [PyData.depthAll]⟩
  | v :: r, h => by
    obtain ⟨ds, q1, q2, q3⟩ := names_dp r (fun w hw => h w (List.mem_cons_of_mem _ hw))
    obtain ⟨t, a, b, rfl, e, la, _, _, lb, _⟩ := h v List.mem_cons_self
    refine ⟨.tuple [.str a, .str b] :: ds, .cons (.tup (SqT.of e) (.cons (.str a) (.cons (.str b) .nil))) q1, ?_, ?_⟩
    · simp [PyData.canLayAll0, PyData.canLay0, q2, la.asc.ok, lb.asc.ok]
    · simp only [PyData.depthAll, PyData.depth]
      omega
theorem shaped_two {a b : Str} (ha : Asc7 a) (hb : Asc7 b) : SeqAt.shaped (.tuple [.str a, .str b]) = true := by
  unfold SeqAt.shaped
  have h1 : (PyData.tuple [.str a, .str b]).canLay0 = true := by simp [PyData.canLay0, PyData.canLayAll0, ha.ok, hb.ok]
  have h2 : (PyData.tuple [.str a, .str b]).depth ≤ 64 := by simp only [PyData.depth, PyData.depthAll]; omega
  rw [h1, decide_eq_true h2]
  rfl
theorem shaped_list {ds : List PyData} (q1 : PyData.canLayAll0 ds = true) (q2 : PyData.depthAll ds ≤ 3) : SeqAt.shaped (.list ds) = true := by
  unfold SeqAt.shaped
  have h1 : (PyData.list ds).canLay0 = true := by simp only [PyData.canLay0]; exact q1
  have h2 : (PyData.list ds).depth ≤ 64 := by simp only [PyData.depth]; omega
  rw [h1, decide_eq_true h2]
  rfl
theorem r65 {k : Nat} {A : Around} (r : Room k A) : A.units + 65 < cLine := by have := r.un; omega
def spNames : Sp := fun vs H Q _ => ∃ (h o : Addr) (n : Int), vs = [.ref h, .int 10] ∧ Hd h o n H ∧ n + 1000 ≤ far ∧
  ∀ (L : Addr) (xs : List V) H', H' L = some (.lst xs) → L ∉ [h, o] → xs.length = 10 → (∀ v ∈ xs, Nm H' v) → Hd h o (n + 700) H' → Bt [h, o] H H' → Q (.ref L) H'
end
end N44
set_option Elab.async false
set_option linter.all false
set_option maxRecDepth 100000
set_option maxHeartbeats 4000000
set_option pp.maxSteps 400
set_option pp.deepTerms false
namespace N44
open PySem PySem.Spec PyProof.Rows L2
open Xk Az
section
variable {P : Program} {w : World} {K : PySem.W.Frag} {mg : Str → Option Value} {base : Heap}
def isStr : PyData → Bool
  | .str _ => true
  | _ => false
def isTup : PyData → Bool
  | .tuple _ => true
  | _ => false
theorem z_str : ∀ d : PyData, PySem.W.kitOne K (.type (kindD d)) (.type "str") = some (isStr d)
  | .none => kit_ty (a := "NoneType") (b := "str") (r := false) (by decide +kernel)
  | .bool _ => kit_ty (a := "bool") (b := "str") (r := false) (by decide +kernel)
  | .int _ => kit_ty (a := "int") (b := "str") (r := false) (by decide +kernel)
  | .str _ => kit_ty (a := "str") (b := "str") (r := true) (by decide +kernel)
  | .list _ => kit_ty (a := "list") (b := "str") (r := false) (by decide +kernel)
  | .tuple _ => kit_ty (a := "tuple") (b := "str") (r := false) (by decide +kernel)
  | .dict _ => kit_ty (a := "dict") (b := "str") (r := false) (by decide +kernel)
theorem z_tup : ∀ d : PyData, PySem.W.kitOne K (.type (kindD d)) (.type "tuple") = some (isTup d)
  | .none => kit_ty (a := "NoneType") (b := "tuple") (r := false) (by decide +kernel)
  | .bool _ => kit_ty (a := "bool") (b := "tuple") (r := false) (by decide +kernel)
  | .int _ => kit_ty (a := "int") (b := "tuple") (r := false) (by decide +kernel)
  | .str _ => kit_ty (a := "str") (b := "tuple") (r := false) (by decide +kernel)
  | .list _ => kit_ty (a := "list") (b := "tuple") (r := false) (by decide +kernel)
  | .tuple _ => kit_ty (a := "tuple") (b := "tuple") (r := true) (by decide +kernel)
  | .dict _ => kit_ty (a := "dict") (b := "tuple") (r := false) (by decide +kernel)
def chk (x sg : Str) : Bool := x.cps.toList.all fun c => decide (c ∈ sg.cps.toList)
def ofT (d : PyData) (sg : Str) (a b : Int) : Bool := match d with
  | .str x => decide (a ≤ (x.length : Int)) && decide ((x.length : Int) ≤ b) && chk x sg
  | _ => false
def spTextOf (K : PySem.W.Frag) : Sp := fun vs H Q _ => ∃ (v : V) (d : PyData) (sg : Str) (a b : Int), vs = [v, .str sg, .int a, .int b] ∧ Dz K H v d ∧ (∀ x, d = .str x → x.length ≤ 2000) ∧ ∀ H', L2.Same H H' → Q (.bl (ofT d sg a b)) H'
theorem ok_of {f : Addr} {fd : FuncData} (D : Df K mg "is_text_of" ["thing", "signs", "least", "most"] sIsTextOf f fd) (T : Txt K mg) : FnOk P w K mg base CX0 1 f fd ["thing", "signs", "least", "most"] (spTextOf K) := by
  refine D.fn.ok scIsTextOf (fun vs H Q E h => ?_) (fun cdv A outer s H vs Q E hr h => ?_)
  · obtain ⟨v, d, sg, a, b, rfl, hz, sz, q⟩ := h
    rfl
  · obtain ⟨v, d, sg, a, b, rfl, hz, sz, q⟩ := h
    refine ⟨_, (pss_cons (ps_if (PW.pt (pw_or (pt_not (pt_val (pe_callB call_isi (by rfl) T.isi (by decide +kernel) (pa_cons (pv 0) (pa_cons (pe_bltn (v := .ty "str") (by rfl) T.str (by decide +kernel) rfl) pa_nil))))) (pw_or1 (pt_not (pt_chain op_le op_le (pv 2) (pe_callB call_len_str (by rfl) T.len PySem.boot_len (pa_cons (pv 0) pa_nil)) (pv 3)))))) (pss_one (ps_ret pe_bl)) pss_nil)
      (pss_one (ps_ret (pe_callB (cr_all (by rfl)) (by rfl) T.all (by decide +kernel) (pa_cons (pe_lc (own := [("sign", 4)]) (g := gName 4) (tt := tYes) (by rfl) scIsTextOf.nd (pi_str (pv 0)) (blkOk_by (own := [("sign", 4)]) (N := ["thing", "signs", "least", "most", "sign"]) (sc := defScope sIsTextOf) (by decide +kernel)) (fun _ _ _ _ _ => pg_name (i := 4) scIsTextOf.nd rfl (.inl rfl)) (fun _ _ _ _ _ => pts_nil) (fun _ _ _ _ _ => pe_cmpR op_in_sign (pv 4) (pv 1) (by rfl))) pa_nil))))), ?_⟩
    refine ⟨_, rfl, _, _, _, _, isStr d, rfl, .ty _, hz.ty, z_str d, _, rfl, ?_⟩
    have qf : ofT d sg a b = false → Q (.bl false) H := fun e => by
      have w := q H (Same.refl H)
      rw [e] at w
      exact w
    cases hz with
    | str x =>
      have lx := sz x rfl
      have fit : x.length ≤ sizeLine := Nat.le_trans lx (by decide)
      refine iteF ⟨_, rfl, _, rfl, x, rfl, fit, a, _, rfl, rfl, _, rfl, ?_⟩
      have eo : ofT (.str x) sg a b = (decide (a ≤ (x.length : Int)) && decide ((x.length : Int) ≤ b) && chk x sg) := rfl
      cases c1 : decide (a ≤ (x.length : Int)) with
      | false => exact iteF ⟨_, rfl, iteT (qf (by rw [eo, c1]; rfl))⟩
      | true =>
        refine iteT ⟨_, rfl, _, b, rfl, rfl, _, rfl, ?_⟩
        cases c2 : decide ((x.length : Int) ≤ b) with
        | false => exact iteT (qf (by rw [eo, c1, c2]; rfl))
        | true =>
          refine iteF ⟨_, rfl, x, rfl, fun L nL => ?_⟩
          have sL := same_upd nL (o := .lst [])
          refine lc_it (walk_str (z := x)) (fun i Hi => ∃ bs : List Bool, bs = (x.cps.toList.take i).map (fun c => decide (c ∈ sg.cps.toList)) ∧ Hi L = some (.lst (bs.map V.bl)) ∧ L2.Same H Hi) ?_ (fun _ _ _ _ => trivial) ?_ ?_
          · exact ⟨[], rfl, upd_same, sL⟩
          · rintro i v Hi Hi' _ ⟨bs, eb, eL, sm⟩ ⟨rfl, c, ec, rfl⟩
            rw [← Array.getElem?_toList] at ec
            refine ⟨rfl, ?_⟩
            unfold tYes
            refine iteT ⟨_, rfl, _, rfl, c, sg, rfl, rfl, ?_⟩
            have il : i < x.cps.toList.length := (List.getElem?_eq_some_iff.mp ec).1
            refine ⟨_, eL, ?_, bs ++ [decide (c ∈ sg.cps.toList)], ?_, ?_, fun b o e => ?_⟩
            · rw [List.length_map, eb, List.length_map, List.length_take]
              refine Nat.lt_of_le_of_lt (show min i x.cps.toList.length ≤ 2000 from ?_) (by decide)
              rw [← len_cps]
              omega
            · rw [List.take_succ, ec, List.map_append, eb]
              rfl
            · rw [upd_same, List.map_append]
              rfl
            · rw [upd_ne (ne_of_none e nL)]
              exact sm _ _ e
          · rintro He ⟨bs, eb, eL, sm⟩
            refine ⟨L, _, rfl, SqL.of eL, ?_⟩
            have w := q He sm
            rw [eo, c1, c2] at w
            rw [eb, List.take_of_length_le (by rw [Array.length_toList]; exact Nat.le_refl _), List.all_map]
            exact w
    | _ => exact iteT (qf rfl)
end
end N44
set_option Elab.async false
set_option linter.all false
set_option maxRecDepth 100000
set_option maxHeartbeats 4000000
set_option pp.maxSteps 400
set_option pp.deepTerms false
namespace N44
open PySem PySem.Spec PyProof.Rows L2
open Xk Az
section
variable {P : Program} {w : World} {K : PySem.W.Frag} {mg : Str → Option Value} {base : Heap}
def sk (x : Str) : Bool := decide (V.str x = V.str (Txt.stripChars x " "))
def db (x : Str) : Bool := !(Builtin.Str.occurrences x "  " 0 x.length 1).isEmpty
def ntx (d : PyData) : Bool := match d with
  | .str x => ofT (.str x) signs 1 40 && (sk x && !db x)
  | _ => false
def nmD (d : PyData) : Bool := match d with
  | .tuple [a, b] => ofT a small 2 3 && ntx b
  | _ => false
def Tx (d : PyData) : Prop := ∀ x, d = .str x → x.length ≤ 2000 ∧ Asc7 x
def T2 (d : PyData) : Prop := ∀ ds, d = .tuple ds → ∀ e ∈ ds, Tx e
theorem ofT_str {d : PyData} {sg : Str} {a b : Int} (h : ofT d sg a b = true) : ∃ x, d = .str x := by
  cases d with
  | str x => exact ⟨x, rfl⟩
  | _ => cases h
theorem ntx_no {d : PyData} (h : ofT d signs 1 40 = false) : ntx d = false := by
  cases d with
  | str x =>
    show (ofT (.str x) signs 1 40 && (sk x && !db x)) = false
    rw [h]
    rfl
  | _ => rfl
theorem len3 {α : Type} {a b c : α} {r : List α} (e : ¬(!decide (V.int (((a :: b :: c :: r).length : Nat) : Int) = V.int 2)) = true) : (0 : Nat) ≠ 0 := fun _ => by
  have n : ¬ V.int (((a :: b :: c :: r).length : Nat) : Int) = V.int 2 := fun z => by
    have := V.int.inj z
    simp at this
    omega
  rw [decide_eq_false n] at e
  exact e rfl
def spSmall (K : PySem.W.Frag) : Sp := fun vs H Q _ => ∃ (v : V) (d : PyData) (a b : Int), vs = [v, .int a, .int b] ∧ Dz K H v d ∧ (∀ x, d = .str x → x.length ≤ 2000) ∧ ∀ H', L2.Same H H' → Q (.bl (ofT d small a b)) H'
def spTongue (K : PySem.W.Frag) : Sp := fun vs H Q _ => ∃ (v : V) (d : PyData), vs = [v] ∧ Dz K H v d ∧ (∀ x, d = .str x → x.length ≤ 2000) ∧ ∀ H', L2.Same H H' → Q (.bl (ofT d small 2 3)) H'
def spNT (K : PySem.W.Frag) : Sp := fun vs H Q _ => ∃ (v : V) (d : PyData), vs = [v] ∧ Dz K H v d ∧ (∀ x, d = .str x → x.length ≤ 2000) ∧ ∀ H', L2.Same H H' → Q (.bl (ntx d)) H'
def spIsName (K : PySem.W.Frag) : Sp := fun vs H Q _ => ∃ (v : V) (d : PyData), vs = [v] ∧ Dz K H v d ∧ T2 d ∧ ∀ H', L2.Same H H' → Q (.bl (nmD d)) H'
theorem ok_small {f : Addr} {fd : FuncData} (D : Df K mg "is_small_text" ["thing", "least", "most"] sIsSmallText f fd) (T : Txt K mg) (cO : Ca P w K mg base 1 "is_text_of" ["thing", "signs", "least", "most"] (spTextOf K)) : FnOk P w K mg base CX0 2 f fd ["thing", "least", "most"] (spSmall K) := by
  obtain ⟨_, gS⟩ := T.sm
  obtain ⟨_, gG⟩ := T.sg
  obtain ⟨_, gA⟩ := T.st
  obtain ⟨_, gB⟩ := T.lt
  obtain ⟨_, gX⟩ := T.lx
  refine D.fn.ok scIsSmallText (fun vs H Q E h => ?_) (fun cdv A outer s H vs Q E hr h => ?_)
  · obtain ⟨v, d, a, b, rfl, hz, sz, q⟩ := h
    rfl
  · obtain ⟨v, d, a, b, rfl, hz, sz, q⟩ := h
    refine ⟨_, (pss_one (ps_ret (pe_ca cO hr (by decide) (by rfl) (pa_cons (pv 0) (pa_cons (pe_glob (v := .str small) (by rfl) gS ⟨_, rfl⟩) (pa_cons (pv 1) (pa_cons (pv 2) pa_nil))))))), ?_⟩
    exact ⟨_, rfl, _, rfl, _, rfl, v, d, small, a, b, rfl, hz, sz, q⟩
theorem ok_tongue {f : Addr} {fd : FuncData} (D : Df K mg "is_tongue" ["thing"] sIsTongue f fd) (T : Txt K mg) (cS : Ca P w K mg base 2 "is_small_text" ["thing", "least", "most"] (spSmall K)) : FnOk P w K mg base CX0 3 f fd ["thing"] (spTongue K) := by
  obtain ⟨_, gS⟩ := T.sm
  obtain ⟨_, gG⟩ := T.sg
  obtain ⟨_, gA⟩ := T.st
  obtain ⟨_, gB⟩ := T.lt
  obtain ⟨_, gX⟩ := T.lx
  refine D.fn.ok scIsTongue (fun vs H Q E h => ?_) (fun cdv A outer s H vs Q E hr h => ?_)
  · obtain ⟨v, d, rfl, hz, sz, q⟩ := h
    rfl
  · obtain ⟨v, d, rfl, hz, sz, q⟩ := h
    refine ⟨_, (pss_one (ps_ret (pe_ca cS hr (by decide) (by rfl) (pa_cons (pv 0) (pa_cons (pe_glob (v := .int 2) (by rfl) gA ⟨_, rfl⟩) (pa_cons (pe_glob (v := .int 3) (by rfl) gB ⟨_, rfl⟩) pa_nil)))))), ?_⟩
    exact ⟨_, rfl, v, d, 2, 3, rfl, hz, sz, q⟩
theorem ok_nt {f : Addr} {fd : FuncData} (D : Df K mg "is_name_text" ["thing"] sIsNameText f fd) (T : Txt K mg) (cO : Ca P w K mg base 1 "is_text_of" ["thing", "signs", "least", "most"] (spTextOf K)) : FnOk P w K mg base CX0 2 f fd ["thing"] (spNT K) := by
  obtain ⟨_, gS⟩ := T.sm
  obtain ⟨_, gG⟩ := T.sg
  obtain ⟨_, gA⟩ := T.st
  obtain ⟨_, gB⟩ := T.lt
  obtain ⟨_, gX⟩ := T.lx
  refine D.fn.ok scIsNameText (fun vs H Q E h => ?_) (fun cdv A outer s H vs Q E hr h => ?_)
  · obtain ⟨v, d, rfl, hz, sz, q⟩ := h
    rfl
  · obtain ⟨v, d, rfl, hz, sz, q⟩ := h
    refine ⟨_, (pss_cons (ps_if (pt_not (pt_val (pe_ca cO hr (by decide) (by rfl) (pa_cons (pv 0) (pa_cons (pe_glob (v := .str signs) (by rfl) gG ⟨_, rfl⟩) (pa_cons pe_int (pa_cons (pe_glob (v := .int 40) (by rfl) gX ⟨_, rfl⟩) pa_nil))))))) (pss_one (ps_ret pe_bl)) pss_nil)
      (pss_one (ps_ret (pe_and (pe_cmpR op_eq (pv 0) (pe_m1 F.slot_str_strip F.type_str_strip mt_stripChars (pv 0) pe_str) (nomark _)) (pe_one (pe_cmpR op_notin_str pe_str (pv 0) (by rfl))))))), ?_⟩
    refine ⟨_, rfl, v, d, signs, 1, 40, rfl, hz, sz, fun H1 s1 => ⟨_, rfl, ?_⟩⟩
    have w := q H1 s1
    cases c : ofT d signs 1 40 with
    | false =>
      rw [ntx_no c] at w
      exact iteT w
    | true =>
      obtain ⟨x, rfl⟩ := ofT_str c
      obtain ⟨x', rfl⟩ : ∃ x', v = .str x' := by cases hz; exact ⟨_, rfl⟩
      have ex : x' = x := by cases hz; rfl
      subst ex
      have fit : x'.length ≤ sizeLine := Nat.le_trans (sz x' rfl) (by decide)
      have e : ntx (.str x') = (sk x' && !db x') := by
        show (ofT (.str x') signs 1 40 && (sk x' && !db x')) = _
        rw [c]
        rfl
      rw [e] at w
      refine iteF ⟨_, rfl, _, rfl, ⟨_, rfl⟩, x', " ", rfl, rfl, fit, rfl, _, rfl, ?_⟩
      refine ite2 (fun c2 => ?_) (fun c2 => ?_)
      · have cs : sk x' = true := c2
        rw [cs] at w
        exact ⟨_, rfl, "  ", x', rfl, rfl, w⟩
      · have cs : sk x' = false := Bool.eq_false_iff.mpr c2
        rw [cs] at w
        exact w
theorem ok_name {f : Addr} {fd : FuncData} (D : Df K mg "is_name" ["thing"] sIsName f fd) (T : Txt K mg) (cTo : Ca P w K mg base 3 "is_tongue" ["thing"] (spTongue K)) (cN : Ca P w K mg base 2 "is_name_text" ["thing"] (spNT K)) : FnOk P w K mg base CX0 4 f fd ["thing"] (spIsName K) := by
  refine D.fn.ok scIsName (fun vs H Q E h => ?_) (fun cdv A outer s H vs Q E hr h => ?_)
  · obtain ⟨v, d, rfl, hz, t2, q⟩ := h
    rfl
  · obtain ⟨v, d, rfl, hz, t2, q⟩ := h
    refine ⟨_, (pss_cons (ps_if (PW.pt (pw_or (pt_not (pt_val (pe_callB call_isi (by rfl) T.isi (by decide +kernel) (pa_cons (pv 0) (pa_cons (pe_bltn (v := .ty "tuple") (by rfl) T.tuple (by decide +kernel) rfl) pa_nil))))) (pw_or1 (pt_cmpR op_ne (pe_callB call_len_seq (by rfl) T.len PySem.boot_len (pa_cons (pv 0) pa_nil)) pe_int (nomark _))))) (pss_one (ps_ret pe_bl)) pss_nil)
      (pss_one (ps_ret (pe_and (pe_ca cTo hr (by decide) (by rfl) (pa_cons (pe_ix ix_tup (pv 0) pe_int (fun _ _ => rfl)) pa_nil)) (pe_one (pe_ca cN hr (by decide) (by rfl) (pa_cons (pe_ix ix_tup (pv 0) pe_int (fun _ _ => rfl)) pa_nil))))))), ?_⟩
    refine ⟨_, rfl, _, _, _, _, isTup d, rfl, .ty _, hz.ty, z_tup d, _, rfl, ?_⟩
    have qf : nmD d = false → Q (.bl false) H := fun e => by
      have w := q H (Same.refl H)
      rw [e] at w
      exact w
    cases hz with
    | @tup t xs ds et ra =>
      refine iteF ⟨_, rfl, t, xs, rfl, .inr (SqT.of et), rfl, _, rfl, ?_⟩
      match xs, ds, ra with
      | [], _, .nil => exact iteT (qf rfl)
      | [_], _, .cons _ .nil => exact iteT (qf rfl)
      | _ :: _ :: _ :: r, _, .cons _ (.cons _ (.cons _ _)) => exact ite2 (fun _ => qf rfl) (fun e => absurd rfl (len3 e))
      | [va, vb], _, .cons (d := a) ha (.cons (d := b) hb .nil) =>
        obtain ⟨ta, tb⟩ : Tx a ∧ Tx b := ⟨t2 _ rfl a (by simp), t2 _ rfl b (by simp)⟩
        refine iteF ⟨_, rfl, t, _, 0, va, rfl, rfl, SqT.of et, atI_nat (j := 0) rfl, va, a, rfl, ha, fun x e => (ta x e).1, fun H1 s1 => ⟨_, rfl, ?_⟩⟩
        have w := fun H' sm => q H' sm
        cases c : ofT a small 2 3 with
        | false =>
          have w := q H1 s1
          rw [show nmD (.tuple [a, b]) = false by show (ofT a small 2 3 && ntx b) = false; rw [c]; rfl] at w
          exact iteF w
        | true =>
          refine iteT ⟨_, rfl, t, _, 1, vb, rfl, rfl, SqT.of (s1 _ _ et), atI_nat (j := 1) rfl, vb, b, rfl, hb.same s1, fun x e => (tb x e).1, fun H2 s2 => ?_⟩
          have w := q H2 (s1.trans s2)
          rw [show nmD (.tuple [a, b]) = ntx b by show (ofT a small 2 3 && ntx b) = _; rw [c]; rfl] at w
          exact w
    | _ => exact iteT (qf rfl)
end
end N44
set_option Elab.async false
set_option linter.all false
set_option maxRecDepth 100000
set_option maxHeartbeats 4000000
set_option pp.maxSteps 400
set_option pp.deepTerms false
namespace N44
open PySem PySem.Spec PyProof.Rows L2
open Xk Az Xnp
section
variable {P : Program} {w : World} {K : PySem.W.Frag} {mg : Str → Option Value} {base : Heap}
theorem tw0 {l : List Nat} {g : Nat → Bool} (h : ∀ c, l.head? = some c → g c = false) : l.takeWhile g = [] := by
  cases l with
  | nil => rfl
  | cons a r => rw [List.takeWhile_cons, h a rfl]; rfl
theorem sp32 (c : Nat) : ((" " : Str)).cps.contains c = decide (c = 32) := by
  have e : ((" " : Str)).cps = #[32] := by decide +kernel
  rw [e]
  by_cases h : c = 32
  · subst h; simp
  · rw [decide_eq_false h]
    simpa using h
theorem sk_clean {x : Str} (h : Clean x.cps.toList) : sk x = true := by
  obtain ⟨⟨_, h2, _⟩, h4⟩ := h
  have g : ∀ c : Nat, c ≠ 32 → ((" " : Str)).cps.contains c = false := fun c n => by rw [sp32, decide_eq_false n]
  have lo : stripLo ((" " : Str)).cps.contains true x = 0 := by
    unfold stripLo
    rw [if_pos rfl, tw0 (fun c e => g c (fun z => h2 (by rw [e, z])))]
    rfl
  have hi : stripHi ((" " : Str)).cps.contains true x 0 = x.length := by
    unfold stripHi
    rw [if_pos rfl, List.drop_zero, tw0 (fun c e => g c (fun z => h4 (by rw [List.head?_reverse] at e; rw [e, z])))]
    rfl
  have s : stripSame ((" " : Str)).cps.contains true true x = true := by
    unfold stripSame
    rw [lo, hi]
    simp
  unfold sk Txt.stripChars Txt.stripBy
  rw [if_pos s]
  exact decide_eq_true rfl
theorem db_clean {x : Str} (h : Clean x.cps.toList) : db x = false := by
  obtain ⟨⟨_, _, h3⟩, _⟩ := h
  unfold db
  rw [Bool.eq_false_iff]
  intro z
  obtain ⟨i, hi, hs⟩ := (PySem.StrLaws.found_iff x "  ").mp z
  have l2 : (("  " : Str)).length = 2 := by decide +kernel
  rw [l2] at hi
  unfold Builtin.Str.subAt at hs
  rw [l2] at hs
  have e : x.cps.extract i (i + 2) = #[32, 32] := by
    have : (("  " : Str)).cps = #[32, 32] := by decide +kernel
    rw [this] at hs
    exact eq_of_beq hs
  have e' : (x.cps.toList.drop i).take 2 = [32, 32] := by
    have := congrArg Array.toList e
    rw [Array.toList_extract] at this
    simpa [List.extract_eq_take_drop] using this
  have a0 : x.cps.toList[i]? = some 32 := by
    have := congrArg (fun l : List Nat => l[0]?) e'
    simpa [List.getElem?_take, List.getElem?_drop] using this
  have a1 : x.cps.toList[i + 1]? = some 32 := by
    have := congrArg (fun l : List Nat => l[1]?) e'
    simpa [List.getElem?_take, List.getElem?_drop] using this
  exact h3 i ⟨a0, a1⟩
theorem nm_true {a b : Str} (ha : letts a) (a2 : 2 ≤ a.length) (a3 : a.length ≤ 3) (hb : Clean b.cps.toList) (b1 : 1 ≤ b.length) (b4 : b.length ≤ 40) : nmD (.tuple [.str a, .str b]) = true := by
  have c1 : chk a small = true := List.all_eq_true.mpr fun c hc => decide_eq_true (ha c hc)
  have c2 : chk b signs = true := List.all_eq_true.mpr fun c hc => decide_eq_true (hb.1.1 c hc)
  show ((decide ((2 : Int) ≤ a.length) && decide ((a.length : Int) ≤ 3) && chk a small) && ((decide ((1 : Int) ≤ b.length) && decide ((b.length : Int) ≤ 40) && chk b signs) && (sk b && !db b))) = true
  rw [c1, c2, sk_clean hb, db_clean hb, decide_eq_true (show (2 : Int) ≤ a.length by omega), decide_eq_true (show (a.length : Int) ≤ 3 by omega), decide_eq_true (show (1 : Int) ≤ b.length by omega), decide_eq_true (show (b.length : Int) ≤ 40 by omega)]
  rfl
theorem tx_s {x : Str} (h : Asc7 x) (l : x.length ≤ 2000) : Tx (.str x) := fun y e => by
  cases e
  exact ⟨l, h⟩
theorem t2_2 {d e : PyData} (h : Tx d) (h' : Tx e) : T2 (.tuple [d, e]) := fun ds q => by
  cases q
  intro x hx
  rcases List.mem_cons.mp hx with z | z
  · rw [z]; exact h
  · rw [List.mem_singleton.mp z]; exact h'
theorem eqv_nD (a b : W37.Nm) : PyData.eqv (W37.nD a) (W37.nD b) = decide (a = b) := by
  obtain ⟨a1, a2⟩ := a
  obtain ⟨b1, b2⟩ := b
  unfold W37.nD
  simp only [PyData.eqv, PyData.eqvAll, Bool.and_true]
  by_cases h1 : a1 = b1
  · by_cases h2 : a2 = b2
    · subst h1 h2
      simp
    · rw [decide_eq_false (fun z => h2 (congrArg Prod.snd z))]
      rw [beq_eq_false_iff_ne.mpr h2, Bool.and_false]
  · rw [decide_eq_false (fun z => h1 (congrArg Prod.fst z))]
    rw [beq_eq_false_iff_ne.mpr h1, Bool.false_and]
theorem ps_no {X : Cx} {st : Stmt} : PS X st (fun _ _ _ => False) := ⟨fun _ _ _ _ _ _ h => False.elim h⟩
/-- a good name -/
structure Gd (n : N2) : Prop where
  l1 : letts n.1
  l2 : 2 ≤ n.1.length
  l3 : n.1.length ≤ 3
  c : Clean n.2.cps.toList
  c1 : 1 ≤ n.2.length
  c2 : n.2.length ≤ 40
theorem Gd.yes {n : N2} (h : Gd n) : nmD (W37.nD n) = true := nm_true h.l1 h.l2 h.l3 h.c h.c1 h.c2
theorem Gd.t2 {n : N2} (h : Gd n) : T2 (W37.nD n) := t2_2 (tx_s h.l1.asc (by have := h.l3; omega)) (tx_s h.c.asc (by have := h.c2; omega))
theorem Gd.sh {n : N2} (h : Gd n) : SeqAt.shaped (W37.nD n) = true := shaped_two h.l1.asc h.c.asc
def spRefuse : Sp := fun vs H Q _ => ∃ (u v : V) (a b : N2), vs = [u, v] ∧ W37.NmV H u a ∧ W37.NmV H v b ∧ Gd a ∧ Gd b ∧ a ≠ b ∧ ∀ H', L2.Same H H' → Q .non H'
theorem ok_refuse {f : Addr} {fd : FuncData} (D : Df K mg "refuse_unless_two_names" ["one", "other"] sRefuseUnlessTwoNames f fd) (T : Txt K mg) (cNm : Ca P w K mg base 4 "is_name" ["thing"] (spIsName K)) : FnOk P w K mg base CX0 5 f fd ["one", "other"] spRefuse := by
  refine D.fn.ok scRefuseUnlessTwoNames (fun vs H Q E h => ?_) (fun cdv A outer s H vs Q E hr h => ?_)
  · obtain ⟨u, v, a, b, rfl, na, nb, ga, gb, ne, q⟩ := h
    rfl
  · obtain ⟨u, v, a, b, rfl, na, nb, ga, gb, ne, q⟩ := h
    refine ⟨_, (pss_cons (ps_for PassesOwn.never rfl (pi_tup (pe_tup (pa_cons (pv 0) (pa_cons (pv 1) pa_nil)))) (pg_name (i := 2) scRefuseUnlessTwoNames.nd rfl (.inl rfl)) (pss_one (ps_if (pt_not (pt_val (pe_ca cNm hr (by decide) (by rfl) (pa_cons (pv 2) pa_nil)))) (pss_one ps_no) pss_nil)))
      (pss_one (ps_if (pt_cmpR (op_eqD hr.units) (pv 0) (pv 1) (nomark _)) (pss_one ps_no) pss_nil))), ?_⟩
    refine ⟨_, rfl, _, rfl, (by show 2 ≤ sizeLine; decide), fun Z nZ => ?_⟩
    have sZ := same_upd nZ (o := .tup [u, v])
    have eZ : (L2.upd H Z (.tup [u, v])) Z = some (.tup [u, v]) := upd_same
    generalize L2.upd H Z (.tup [u, v]) = H1 at sZ eZ ⊢
    have both : ∀ x ∈ [u, v], ∃ n, W37.NmV H1 x n ∧ Gd n := fun x hx => by
      simp only [List.mem_cons, List.not_mem_nil, or_false] at hx
      rcases hx with rfl | rfl
      · exact ⟨a, na.tp (W37.tp_same sZ), ga⟩
      · exact ⟨b, nb.tp (W37.tp_same sZ), gb⟩
    refine ⟨Z, rfl, ⟨_, SqT.of eZ⟩, for_tup (K := K) (a := Z) (xs := [u, v]) (fun i σ Hx => ∃ c2, σ = [some u, some v, c2] ∧ L2.Same H1 Hx) ⟨none, rfl, Same.refl _⟩ (fun i σ Hi _ z => by obtain ⟨_, _, z⟩ := z; exact SqT.of (z _ _ eZ)) ?_ ?_⟩
    · rintro i x σ Hx hx ⟨c2, rfl, sx⟩
      obtain ⟨n, nv, g⟩ := both x (List.mem_of_getElem? hx)
      have nv := nv.tp (W37.tp_same sx)
      refine ⟨_, rfl, x, W37.nD n, rfl, nv.dz, g.t2, fun H2 s2 => ?_⟩
      rw [g.yes]
      exact ⟨_, rfl, iteF ⟨_, rfl, sx.trans s2⟩⟩
    · rintro σ Hx ⟨c2, rfl, sx⟩
      have st := sZ.trans sx
      have na2 := na.tp (W37.tp_same st)
      have nb2 := nb.tp (W37.tp_same st)
      obtain ⟨ta, rfl, eta⟩ := na2
      obtain ⟨tb, rfl, etb⟩ := nb2
      refine ⟨_, rfl, _, rfl, W37.nD a, W37.nD b, .tup (SqT.of eta) (.cons (.str _) (.cons (.str _) .nil)), .tup (SqT.of etb) (.cons (.str _) (.cons (.str _) .nil)), ga.sh, gb.sh, _, rfl, ?_⟩
      rw [eqv_nD, decide_eq_false ne]
      exact iteF (q Hx st)
end
end N44
set_option Elab.async false
set_option linter.all false
set_option maxRecDepth 100000
set_option maxHeartbeats 4000000
set_option pp.maxSteps 400
set_option pp.deepTerms false
namespace N44
open PySem PySem.Spec PyProof.Rows L2
open Xk Az Xnp
section
variable {P : Program} {w : World} {K : PySem.W.Frag} {mg : Str → Option Value} {base : Heap}
def fsN (m : Int) (c l g : Addr) : List (Str × V) := [("many", .int m), ("counting", .ref c), ("links", .ref l), ("groups", .ref g)]
/-- a book of names: what is told and counts, by its number -/
structure Nb (H : Hp) (C b c : Addr) (m : Int) (es : List (Int × Pair)) (fr : Addr → Prop) : Prop where
  ex : ∃ (dx l g : Addr) (kvs : List (Key × V)), H b = some (.ins C dx (fsN m c l g)) ∧ H c = some (.dK kvs) ∧ kvs.map (·.1) = es.map (fun e => Sum.inl e.1) ∧ PrL H (kvs.map (·.2)) (es.map (·.2)) ∧ Gps H g (es.map (·.2)) ∧ Lks H l (es.map (·.2)) fr
theorem put_many (m n : Int) (c l g : Addr) : putF "many" (.int n) (fsN m c l g) = fsN n c l g := by
  unfold fsN putF
  rw [if_pos rfl]
theorem put_both (m : Int) (c l g d h : Addr) : putF "groups" (.ref h) (putF "links" (.ref d) (fsN m c l g)) = fsN m c d h := by
  unfold fsN
  simp only [putF, show ¬ (("many" : Str) = "links") by decide +kernel, show ¬ (("counting" : Str) = "links") by decide +kernel, show ¬ (("many" : Str) = "groups") by decide +kernel, show ¬ (("counting" : Str) = "groups") by decide +kernel, show ¬ (("links" : Str) = "groups") by decide +kernel, if_false, if_true]
/-- what a class of books has not -/
structure NbC (K : PySem.W.Frag) (C : Addr) : Prop where
  cls : L2.Cls K C
  many : NoAttr K C "many"
  cnt : NoAttr K C "counting"
  lnk : NoAttr K C "links"
  grp : NoAttr K C "groups"
def B2n (b c : Addr) (H H' : Hp) : Prop := ∀ x o, x ≠ b → x ≠ c → H x = some o → H' x = some o
def spTell (C : Addr) : Sp := fun vs H Q _ => ∃ (fr : Addr → Prop) (b c : Addr) (u v : V) (m : Int) (es : List (Int × Pair)) (x y : N2), vs = [.ref b, u, v] ∧ Nb H C b c m es fr ∧ W37.NmV H u x ∧ W37.NmV H v y ∧ Gd x ∧ Gd y ∧ x ≠ y ∧ (∀ e ∈ es, e.1 < m) ∧ es.length ≤ 90 ∧
  ∀ H', Nb H' C b c (m + 1) (es ++ [(m, (x, y))]) (fun x => H x = none) → B2n b c H H' → Q (.int m) H'
theorem Lks.imp {H : Hp} {d : Addr} {es : List Pair} {fr fr' : Addr → Prop} (h : Lks H d es fr) (s : ∀ x ys, H x = some (.lst ys) → fr x → fr' x) : Lks H d es fr' := by
  obtain ⟨ks, kv, e1, e2, e3, e4, al⟩ := h
  refine ⟨ks, kv, e1, e2, e3, e4, fun a ha => ?_⟩
  obtain ⟨L, ys, q1, q2, q3, q4⟩ := al a ha
  exact ⟨L, ys, q1, q2, q3, s L ys q2 q4⟩
theorem Lks.keep {H H' : Hp} {d : Addr} {es : List Pair} {fr : Addr → Prop} (h : Lks H d es fr) (s : ∀ kv, H d = some (.dT kv) → H' d = some (.dT kv)) (k : ∀ x ys, fr x → H x = some (.lst ys) → H' x = some (.lst ys)) (tp : W37.Tp H H') : Lks H' d es fr := by
  obtain ⟨ks, kv, e1, e2, e3, e4, al⟩ := h
  refine ⟨ks, kv, s _ e1, e2, e3, e4, fun a ha => ?_⟩
  obtain ⟨L, ys, q1, q2, q3, q4⟩ := al a ha
  exact ⟨L, ys, q1, k L ys q4 q2, q3.tp tp, q4⟩
theorem Lks.same {H H' : Hp} {d : Addr} {es : List Pair} {fr : Addr → Prop} (h : Lks H d es fr) (s : L2.Same H H') : Lks H' d es fr := h.keep (fun kv e => s _ _ e) (fun x ys _ e => s _ _ e) (W37.tp_same s)
theorem PrL.app {H : Hp} : ∀ {vs ws : List V} {es fs : List Pair}, PrL H vs es → PrL H ws fs → PrL H (vs ++ ws) (es ++ fs)
  | _, _, _, _, .nil, h => h
  | _, _, _, _, .cons a b c r, h => .cons a b c (r.app h)
theorem ok_tell {f : Addr} {fd : FuncData} {C : Addr} (F : L2.Fun K "tell" "Names.tell" sNamesTell f fd) (N : NbC K C) (cRf : Ca P w K mg base 5 "refuse_unless_two_names" ["one", "other"] spRefuse) (cSo : Mt P w K mg base 5 C "sort_out" ["self"] (spSort K)) : FnOk P w K mg base CX0 6 f fd ["self", "one", "other"] (spTell C) := by
  obtain ⟨fS, fdS, mtS, okS, bdS⟩ := cSo.ex
  refine F.ok scNamesTell (fun vs H Q E h => ?_) (fun cdv A outer s H vs Q E hr h => ?_)
  · obtain ⟨fr0, b, c, u, v, m, es, x, y, rfl, nb0, nu, nv, gx, gy, ne, lt, l90, q⟩ := h
    rfl
  · obtain ⟨fr0, b, c, u, v, m, es, x, y, rfl, nb0, nu, nv, gx, gy, ne, lt, l90, q⟩ := h
    refine ⟨_, (pss_cons (ps_expr (pe_ca cRf hr (by decide) (by rfl) (pa_cons (pv 1) (pa_cons (pv 2) pa_nil))))
      (pss_cons (ps_set (i := 3) scNamesTell.nd rfl (.inl rfl) (pe_fld (pv 0) rfl))
      (pss_cons (ps_fldaug (pv 0) pe_int in_add)
      (pss_cons (ps_dput (hu_of hr) (pe_fld (pv 0) rfl) (pv 3) (pe_tup (pa_cons (pv 1) (pa_cons (pv 2) pa_nil))) rfl)
      (pss_cons (ps_expr ((pe_meth0 (pv 0) N.cls mtS okS (hr.mono (by decide)) bdS .nil pass0)))
      (pss_one (ps_ret (pv 3)))))))), ?_⟩
    obtain ⟨dx, l0, g0, kvs, eb, ec, ek, pr, gp, lks0⟩ := nb0.ex
    refine ⟨_, rfl, _, rfl, u, v, x, y, rfl, nu, nv, gx, gy, ne, fun H1 s1 => ?_⟩
    have eb1 := s1 _ _ eb
    refine ⟨_, rfl, b, C, dx, _, .int m, rfl, eb1, N.cls, N.many, rfl, ?_⟩
    refine ⟨_, rfl, b, C, dx, _, .int m, rfl, eb1, N.cls, N.many, rfl, m, 1, rfl, rfl, dx, _, eb1, by show 4 < 1000; decide, ?_⟩
    rw [put_many]
    have pr1 := pr.tp (W37.tp_same s1)
    have ec1 := s1 _ _ ec
    have cb : c ≠ b := ne_of ec eb (by intro z; cases z)
    have tpb : W37.Tp H1 (L2.upd H1 b (.ins C dx (fsN (m + 1) c l0 g0))) := W37.tp_upd fun us z => by rw [eb1] at z; cases z
    have eb2 : (L2.upd H1 b (.ins C dx (fsN (m + 1) c l0 g0))) b = some (.ins C dx (fsN (m + 1) c l0 g0)) := upd_same
    have ec2 : (L2.upd H1 b (.ins C dx (fsN (m + 1) c l0 g0))) c = some (.dK kvs) := by rw [upd_ne cb]; exact ec1
    have pr2 := pr1.tp tpb
    have t12 := (W37.tp_same s1).trans tpb
    have fr2 : B2n b c H (L2.upd H1 b (.ins C dx (fsN (m + 1) c l0 g0))) := fun z o n1 n2 e => by rw [upd_ne n1]; exact s1 _ _ e
    generalize L2.upd H1 b (.ins C dx (fsN (m + 1) c l0 g0)) = H2 at eb2 ec2 pr2 t12 fr2 ⊢
    refine ⟨_, rfl, _, rfl, (by show 2 ≤ sizeLine; decide), fun T1 nT => ?_⟩
    have sT := same_upd nT (o := .tup [u, v])
    have eT : (L2.upd H2 T1 (.tup [u, v])) T1 = some (.tup [u, v]) := upd_same
    have eb3 := sT _ _ eb2
    have ec3 := sT _ _ ec2
    have pr3 := pr2.tp (W37.tp_same sT)
    have t13 := t12.trans (W37.tp_same sT)
    have fr3 : B2n b c H (L2.upd H2 T1 (.tup [u, v])) := fun z o n1 n2 e => sT _ _ (fr2 z o n1 n2 e)
    generalize L2.upd H2 T1 (.tup [u, v]) = H3 at sT eT eb3 ec3 pr3 t13 fr3 ⊢
    have kl : kvs.length = es.length := by
      have := congrArg List.length ek
      rwa [List.length_map, List.length_map] at this
    have new : valV kvs (.inl m) = none := by
      cases e : valV kvs (.inl m) with
      | none => rfl
      | some w =>
        have h := valV_in e
        rw [ek] at h
        obtain ⟨z, hz, e2⟩ := List.mem_map.mp h
        injection e2 with e2
        have := lt z hz
        omega
    refine ⟨_, rfl, b, C, dx, _, .ref c, rfl, eb3, N.cls, N.cnt, rfl, _, rfl, c, _, rfl, DPut.k (k := .inl m) ec3 (Nat.lt_of_le_of_lt (show kvs.length ≤ 100 by omega) (by decide)), ?_⟩
    rw [putK_new _ new]
    have tpc : W37.Tp H3 (L2.upd H3 c (.dK (kvs ++ [(.inl m, .ref T1)]))) := W37.tp_upd fun us z => by rw [ec3] at z; cases z
    have eb4 : (L2.upd H3 c (.dK (kvs ++ [(.inl m, .ref T1)]))) b = some (.ins C dx (fsN (m + 1) c l0 g0)) := by rw [upd_ne (Ne.symm cb)]; exact eb3
    have ec4 : (L2.upd H3 c (.dK (kvs ++ [(.inl m, .ref T1)]))) c = some (.dK (kvs ++ [(.inl m, .ref T1)])) := upd_same
    have pr4 : PrL (L2.upd H3 c (.dK (kvs ++ [(.inl m, .ref T1)]))) ((kvs ++ [((Sum.inl m, V.ref T1) : Key × V)]).map fun e : Key × V => e.2) ((es ++ [((m, (x, y)) : Int × Pair)]).map fun e : Int × Pair => e.2) := by
      rw [List.map_append, List.map_append]
      exact (pr3.tp tpc).app (.cons (p := (x, y)) (tpc _ _ eT) (nu.tp (t13.trans tpc)) (nv.tp (t13.trans tpc)) .nil)
    have fr4 : B2n b c H (L2.upd H3 c (.dK (kvs ++ [(.inl m, .ref T1)]))) := fun z o n1 n2 e => by rw [upd_ne n2]; exact fr3 z o n1 n2 e
    generalize L2.upd H3 c (.dK (kvs ++ [(.inl m, .ref T1)])) = H4 at eb4 ec4 pr4 fr4 ⊢
    refine ⟨_, rfl, b, dx, _, rfl, eb4, rfl, b, C, dx, c, _, _, (es ++ [((m, (x, y)) : Int × Pair)]).map (fun e : Int × Pair => e.2), rfl, eb4, N.cls, N.cnt, N.lnk, N.grp, by show 4 < 900; decide, rfl, ec4, pr4, by rw [List.length_map, List.length_append]; show es.length + 1 ≤ 100; omega, fun d g H5 eb5 fr gp5 lk5 => ?_⟩
    rw [put_both] at eb5
    have ec5 := fr c _ cb ec4
    have tp5 : W37.Tp H4 H5 := fun z us e => fr z _ (fun w => by rw [w, eb4] at e; cases e) e
    have n04 : ∀ x, H4 x = none → H x = none := fun x nx => by
      cases e : H x with
      | none => rfl
      | some o =>
        by_cases c1 : x = b
        · rw [c1, eb4] at nx; cases nx
        · by_cases c2 : x = c
          · rw [c2, ec4] at nx; cases nx
          · rw [fr4 x o c1 c2 e] at nx; cases nx
    refine ⟨_, rfl, q H5 ⟨dx, d, g, _, eb5, ec5, ?_, pr4.tp tp5, gp5, lk5.imp fun x _ _ z => n04 x z⟩ fun z o n1 n2 e => fr z o n1 (fr4 z o n1 n2 e)⟩
    rw [List.map_append, List.map_append, ek]
    rfl
end
end N44
set_option Elab.async false
set_option linter.all false
set_option maxRecDepth 100000
set_option maxHeartbeats 4000000
set_option pp.maxSteps 400
set_option pp.deepTerms false
namespace N44
open PySem PySem.Spec PyProof.Rows L2
open Xk Az Xnp
section
variable {P : Program} {w : World} {K : PySem.W.Frag} {mg : Str → Option Value} {base : Heap}
def spInit (C : Addr) : Sp := fun vs H Q _ => ∃ (b dx : Addr), vs = [.ref b] ∧ H b = some (.ins C dx []) ∧ ∀ c H', Nb H' C b c 0 [] (fun _ => False) → (∀ x o, x ≠ b → H x = some o → H' x = some o) → H c = none → Q .non H'
theorem ok_init {f : Addr} {fd : FuncData} {C : Addr} (F : L2.Fun K "__init__" "Names.__init__" sNamesInit f fd) (N : NbC K C) : FnOk P w K mg base CX0 1 f fd ["self"] (spInit C) := by
  refine F.ok scNamesInit (fun vs H Q E h => ?_) (fun cdv A outer s H vs Q E hr h => ?_)
  · obtain ⟨b, dx, rfl, eb, q⟩ := h
    rfl
  · obtain ⟨b, dx, rfl, eb, q⟩ := h
    refine ⟨_, (pss_cons (ps_fld (pv 0) pe_int rfl)
      (pss_cons (ps_fld (pv 0) pe_dnewK rfl)
      (pss_cons (ps_fld (pv 0) pe_dnewT rfl)
      (pss_one (ps_fld (pv 0) pe_dnewT rfl))))), ?_⟩
    refine ⟨_, rfl, b, C, dx, [], rfl, eb, N.cls, N.many, by decide, ?_⟩
    have e1 : (L2.upd H b (.ins C dx (putF "many" (.int 0) []))) b = some (.ins C dx [("many", .int 0)]) := upd_same
    have f1 : ∀ x o, x ≠ b → H x = some o → (L2.upd H b (.ins C dx (putF "many" (.int 0) []))) x = some o := fun x o n e => by rw [upd_ne n]; exact e
    have g1 : ∀ p, (L2.upd H b (.ins C dx (putF "many" (.int 0) []))) p = none → H p = none := fun p n => by
      rw [upd_ne (fun z => by rw [z, upd_same] at n; cases n)] at n
      exact n
    generalize L2.upd H b (.ins C dx (putF "many" (.int 0) [])) = H1 at e1 f1 g1 ⊢
    refine fun c nc => ⟨_, rfl, b, C, dx, _, rfl, same_upd nc _ _ e1, N.cls, N.cnt, by show 1 < 1000; decide, ?_⟩
    have cb : c ≠ b := fun z => by rw [z, e1] at nc; cases nc
    have ec2 : (L2.upd (L2.upd H1 c (.dK [])) b (.ins C dx (putF "counting" (.ref c) [("many", .int 0)]))) c = some (.dK []) := by rw [upd_ne cb]; exact upd_same
    have e2 : (L2.upd (L2.upd H1 c (.dK [])) b (.ins C dx (putF "counting" (.ref c) [("many", .int 0)]))) b = some (.ins C dx [("many", .int 0), ("counting", .ref c)]) := by
      rw [upd_same]
      simp only [putF, show ¬ (("many" : Str) = "counting") by decide +kernel, if_false]
    have f2 : ∀ x o, x ≠ b → H x = some o → (L2.upd (L2.upd H1 c (.dK [])) b (.ins C dx (putF "counting" (.ref c) [("many", .int 0)]))) x = some o := fun x o n e => by rw [upd_ne n]; exact same_upd nc _ _ (f1 x o n e)
    have hc := g1 c nc
    generalize L2.upd (L2.upd H1 c (.dK [])) b (.ins C dx (putF "counting" (.ref c) [("many", .int 0)])) = H2 at ec2 e2 f2 ⊢
    refine fun l nl => ⟨_, rfl, b, C, dx, _, rfl, same_upd nl _ _ e2, N.cls, N.lnk, by show 2 < 1000; decide, ?_⟩
    have e3 : (L2.upd (L2.upd H2 l (.dT [])) b (.ins C dx (putF "links" (.ref l) [("many", .int 0), ("counting", .ref c)]))) b = some (.ins C dx [("many", .int 0), ("counting", .ref c), ("links", .ref l)]) := by
      rw [upd_same]
      simp only [putF, show ¬ (("many" : Str) = "links") by decide +kernel, show ¬ (("counting" : Str) = "links") by decide +kernel, if_false]
    have el3 : (L2.upd (L2.upd H2 l (.dT [])) b (.ins C dx (putF "links" (.ref l) [("many", .int 0), ("counting", .ref c)]))) l = some (.dT []) := by rw [upd_ne (fun z => by rw [z, e2] at nl; cases nl)]; exact upd_same
    have ec3 : (L2.upd (L2.upd H2 l (.dT [])) b (.ins C dx (putF "links" (.ref l) [("many", .int 0), ("counting", .ref c)]))) c = some (.dK []) := by rw [upd_ne cb]; exact same_upd nl _ _ ec2
    have f3 : ∀ x o, x ≠ b → H x = some o → (L2.upd (L2.upd H2 l (.dT [])) b (.ins C dx (putF "links" (.ref l) [("many", .int 0), ("counting", .ref c)]))) x = some o := fun x o n e => by rw [upd_ne n]; exact same_upd nl _ _ (f2 x o n e)
    generalize L2.upd (L2.upd H2 l (.dT [])) b (.ins C dx (putF "links" (.ref l) [("many", .int 0), ("counting", .ref c)])) = H3 at ec3 e3 f3 el3 ⊢
    refine fun g ng => ⟨_, rfl, b, C, dx, _, rfl, same_upd ng _ _ e3, N.cls, N.grp, by show 3 < 1000; decide, ?_⟩
    have gb : g ≠ b := fun z => by rw [z, e3] at ng; cases ng
    have e4 : (L2.upd (L2.upd H3 g (.dT [])) b (.ins C dx (putF "groups" (.ref g) [("many", .int 0), ("counting", .ref c), ("links", .ref l)]))) b = some (.ins C dx (fsN 0 c l g)) := by
      rw [upd_same]
      simp only [putF, fsN, show ¬ (("many" : Str) = "groups") by decide +kernel, show ¬ (("counting" : Str) = "groups") by decide +kernel, show ¬ (("links" : Str) = "groups") by decide +kernel, if_false]
    refine q c _ ⟨dx, l, g, [], e4, ?_, rfl, .nil, ⟨[], ?_, (fun a h => by cases h), (fun a _ => rfl)⟩, [], [], ?_, List.nodup_nil, fun a => Iff.rfl, rfl, fun a ha => by cases ha⟩ (fun x o n e => ?_) hc
    · rw [upd_ne cb]
      exact same_upd ng _ _ ec3
    · rw [upd_ne gb]
      exact upd_same
    · have lb : l ≠ b := fun z => by rw [z, e2] at nl; cases nl
      rw [upd_ne lb]
      refine same_upd ng _ _ ?_
      exact el3
    · rw [upd_ne n]
      exact same_upd ng _ _ (f3 x o n e)
end
end N44
set_option Elab.async false
set_option linter.all false
set_option maxRecDepth 100000
set_option maxHeartbeats 4000000
set_option pp.maxSteps 400
set_option pp.deepTerms false
namespace N44
open PySem PySem.Spec PyProof.Rows L2
open Xk Az Xnp
section
variable {P : Program} {w : World} {K : PySem.W.Frag} {mg : Str → Option Value} {base : Heap}
/-- what is told in the law, and whether it counts -/
abbrev Tl := Pair × Bool
def cnt (tl : List Tl) : List Pair := (tl.filter fun t => t.2).map fun t => t.1
inductive TlL (H : Hp) : List V → List Tl → Prop
  | nil : TlL H [] []
  | cons {r : Addr} {u v : V} {t : Tl} {vs : List V} {tl : List Tl} : H r = some (.lst [u, v, .bl t.2]) → W37.NmV H u t.1.1 → W37.NmV H v t.1.2 → TlL H vs tl → TlL H (.ref r :: vs) (t :: tl)
theorem TlL.len {H : Hp} : ∀ {vs : List V} {tl : List Tl}, TlL H vs tl → vs.length = tl.length
  | _, _, .nil => rfl
  | _, _, .cons _ _ _ r => by rw [List.length_cons, List.length_cons, r.len]
theorem TlL.get {H : Hp} : ∀ {vs : List V} {tl : List Tl} {i : Nat} {v : V}, TlL H vs tl → vs[i]? = some v → ∃ (t : Tl) (r : Addr) (a b : V), tl[i]? = some t ∧ v = .ref r ∧ H r = some (.lst [a, b, .bl t.2]) ∧ W37.NmV H a t.1.1 ∧ W37.NmV H b t.1.2
  | _, _, i, v, .nil, h => by simp at h
  | _, _, 0, v, .cons h1 h2 h3 r, h => by
    cases h
    exact ⟨_, _, _, _, rfl, rfl, h1, h2, h3⟩
  | _, _, i + 1, v, .cons h1 h2 h3 r, h => r.get (by simpa using h)
theorem mem_cnt {tl : List Tl} {p : Pair} : p ∈ cnt tl ↔ (p, true) ∈ tl := by
  unfold cnt
  rw [List.mem_map]
  constructor
  · rintro ⟨⟨p', b⟩, h, rfl⟩
    have h := List.mem_filter.mp h
    have : b = true := h.2
    rw [← this]
    exact h.1
  · exact fun h => ⟨(p, true), List.mem_filter.mpr ⟨h, rfl⟩, rfl⟩
theorem any_nD (ms : List N2) (m : N2) : ((ms.map W37.nD).any fun z => PyData.eqv z (W37.nD m)) = decide (m ∈ ms) := by
  rw [List.any_map, Bool.eq_iff_iff, List.any_eq_true, decide_eq_true_eq]
  constructor
  · rintro ⟨z, hz, e⟩
    have e : PyData.eqv (W37.nD z) (W37.nD m) = true := e
    rw [eqv_nD] at e
    rw [← of_decide_eq_true e]
    exact hz
  · exact fun h => ⟨m, h, by show PyData.eqv (W37.nD m) (W37.nD m) = true; rw [eqv_nD]; exact decide_eq_true rfl⟩
theorem lay_all : ∀ ns : List N2, (∀ n ∈ ns, Gd n) → PyData.canLayAll0 (ns.map W37.nD) = true
  | [], _ => by simp [PyData.canLayAll0]
  | n :: r, h => by
    have h1 := h n List.mem_cons_self
    rw [List.map_cons]
    simp [PyData.canLayAll0, W37.nD, PyData.canLay0, h1.l1.asc.ok, h1.c.asc.ok, lay_all r fun m hm => h m (List.mem_cons_of_mem _ hm)]
theorem dep_rows : ∀ l : List N2, PyData.depthAll (l.map W37.nD) ≤ 3 := dep_all
theorem shaped_tup {ns : List N2} (h : ∀ n ∈ ns, Gd n) : SeqAt.shaped (.tuple (ns.map W37.nD)) = true := by
  unfold SeqAt.shaped
  have h1 : (PyData.tuple (ns.map W37.nD)).canLay0 = true := by simp only [PyData.canLay0]; exact lay_all ns h
  have h2 : (PyData.tuple (ns.map W37.nD)).depth ≤ 64 := by
    have := dep_all ns
    simp only [PyData.depth]
    omega
  rw [h1, decide_eq_true h2]
  rfl
abbrev Nt := V × N2
theorem nml_split {H : Hp} : ∀ {vs : List V} {ns : List N2}, W37.NmL H vs ns → ∃ ts : List Nt, ts.map (·.1) = vs ∧ ts.map (·.2) = ns ∧ ∀ p ∈ ts, W37.NmV H p.1 p.2
  | _, _, .nil => ⟨[], rfl, rfl, fun p hp => by cases hp⟩
  | v :: _, n :: _, .cons h r => by
    obtain ⟨ts, e1, e2, h2⟩ := nml_split r
    refine ⟨(v, n) :: ts, by rw [List.map_cons, e1], by rw [List.map_cons, e2], fun p hp => ?_⟩
    rcases List.mem_cons.mp hp with rfl | z
    · exact h
    · exact h2 p z
theorem nml_join {H : Hp} : ∀ {ts : List Nt}, (∀ p ∈ ts, W37.NmV H p.1 p.2) → W37.NmL H (ts.map (·.1)) (ts.map (·.2))
  | [], _ => .nil
  | p :: ts, h => .cons (h p List.mem_cons_self) (nml_join fun q hq => h q (List.mem_cons_of_mem _ hq))
def spHeap : Sp := fun vs H Q _ => ∃ (TL : Addr) (v : V) (ts : List V) (tl : List Tl) (a : N2), vs = [.ref TL, v] ∧ H TL = some (.lst ts) ∧ TlL H ts tl ∧ tl.length ≤ 60 ∧ W37.NmV H v a ∧ Gd a ∧ (∀ t ∈ tl, Gd t.1.1 ∧ Gd t.1.2) ∧
  ∀ (t : Addr) (ys : List V) (l : List N2) H', L2.Same H H' → H' t = some (.tup ys) → W37.NmL H' ys l → Xnp.Cls (cnt tl) a l → Q (.ref t) H'
end
end N44
set_option Elab.async false
set_option linter.all false
set_option maxRecDepth 100000
set_option maxHeartbeats 4000000
set_option pp.maxSteps 400
set_option pp.deepTerms false
namespace N44
open PySem PySem.Spec PyProof.Rows L2
open Xk Az Xnp
section
variable {P : Program} {w : World} {K : PySem.W.Frag} {mg : Str → Option Value} {base : Heap}
noncomputable def oneB (es : List Pair) (a b : N2) : Bool := open Classical in decide (Rch es a b)
def spAreOne (C : Addr) : Sp := fun vs H Q _ => ∃ (b dx g : Addr) (fs : List (Str × V)) (u v : V) (es : List Pair) (x y : N2), vs = [.ref b, u, v] ∧ H b = some (.ins C dx fs) ∧ fs.lookup ("groups" : Str) = some (.ref g) ∧ fs.lookup ("class_of" : Str) = none ∧ Gps H g es ∧ W37.NmV H u x ∧ W37.NmV H v y ∧ Gd x ∧ Gd y ∧ (∀ n ∈ nodes es, Gd n) ∧
  ∀ H', L2.Same H H' → Q (.bl (oneB es x y)) H'
theorem Gps.same {H H' : Hp} {g : Addr} {es : List Pair} (h : Gps H g es) (s : L2.Same H H') : Gps H' g es := by
  obtain ⟨kv, e, al, no⟩ := h
  refine ⟨kv, s _ _ e, fun a ha => ?_, no⟩
  obtain ⟨t, ys, l, e1, e2, e3, c⟩ := al a ha
  exact ⟨t, ys, l, e1, s _ _ e2, e3.tp (W37.tp_same s), c⟩
theorem ok_one {f : Addr} {fd : FuncData} {C : Addr} (F : L2.Fun K "are_one" "Names.are_one" sNamesAreOne f fd) (T : Txt K mg) (hC : L2.Cls K C) (n3 : NoAttr K C "groups") (cCo : Mt P w K mg base 1 C "class_of" ["self", "name"] (spClassOf C)) : FnOk P w K mg base CX0 2 f fd ["self", "one", "other"] (spAreOne C) := by
  obtain ⟨fC, fdC, mtC, okC, bdC⟩ := cCo.ex
  refine F.ok scNamesAreOne (fun vs H Q E h => ?_) (fun cdv A outer s H vs Q E hr h => ?_)
  · obtain ⟨b, dx, g, fs, u, v, es, x, y, rfl, eb, lg, lno, gp, nu, nv, gx, gy, gall, q⟩ := h
    rfl
  · obtain ⟨b, dx, g, fs, u, v, es, x, y, rfl, eb, lg, lno, gp, nu, nv, gx, gy, gall, q⟩ := h
    refine ⟨_, (pss_one (ps_ret (pe_cmpR (op_eqD hr.units) (pe_ix ix_tup (pe_meth (pv 0) hC mtC okC (hr.mono (by decide)) bdC .nil pass0 (pa_cons (pv 1) pa_nil)) pe_int (fun _ _ => rfl)) (pe_ix ix_tup (pe_meth (pv 0) hC mtC okC (hr.mono (by decide)) bdC .nil pass0 (pa_cons (pv 2) pa_nil)) pe_int (fun _ _ => rfl)) (nomark _)))), ?_⟩
    refine ⟨_, rfl, b, dx, fs, rfl, eb, lno, _, rfl, b, dx, g, fs, u, es, x, rfl, eb, lg, gp, nu, fun t ys l H1 s1 et nl c => ?_⟩
    have first : ∀ {H : Hp} {ys : List V} {l : List N2} {a : N2}, W37.NmL H ys l → Xnp.Cls es a l → Gd a → ∃ v n, ys[0]? = some v ∧ l[0]? = some n ∧ W37.NmV H v n ∧ Gd n := fun {H ys l a} nl c ga => by
      cases nl with
      | nil => exact absurd c.self (by simp)
      | cons h r =>
        refine ⟨_, _, rfl, rfl, h, ?_⟩
        rcases rch_in ((c.mem _).mp List.mem_cons_self) with z | z
        · rw [z]; exact ga
        · exact gall _ z
    obtain ⟨v1, n1, e1, f1, nv1, g1⟩ := first nl c gx
    refine ⟨t, _, 0, v1, rfl, rfl, SqT.of et, atI_nat (j := 0) e1, ?_⟩
    refine ⟨_, rfl, b, dx, fs, rfl, s1 _ _ eb, lno, _, rfl, b, dx, g, fs, v, es, y, rfl, s1 _ _ eb, lg, gp.same s1, nv.tp (W37.tp_same s1), fun t2 ys2 l2 H2 s2 et2 nl2 c2 => ?_⟩
    obtain ⟨v2, n2, e2, f2, nv2, g2⟩ := first nl2 c2 gy
    refine ⟨t2, _, 0, v2, rfl, rfl, SqT.of et2, atI_nat (j := 0) e2, ?_⟩
    obtain ⟨a1, rfl, ea1⟩ := nv1.tp (W37.tp_same s2)
    obtain ⟨a2, rfl, ea2⟩ := nv2
    refine ⟨W37.nD n1, W37.nD n2, .tup (SqT.of ea1) (.cons (.str _) (.cons (.str _) .nil)), .tup (SqT.of ea2) (.cons (.str _) (.cons (.str _) .nil)), g1.sh, g2.sh, ?_⟩
    rw [eqv_nD]
    have ed : decide (n1 = n2) = oneB es x y := by
      have r1 := (c.mem n1).mp (List.mem_of_getElem? f1)
      have r2 := (c2.mem n2).mp (List.mem_of_getElem? f2)
      by_cases r : Rch es x y
      · have e3 : oneB es x y = true := by unfold oneB; exact @decide_eq_true _ (_) r
        have := (c.of r).uniq c2
        rw [this, f2] at f1
        rw [e3, decide_eq_true (Option.some.inj f1).symm]
      · have e3 : oneB es x y = false := by unfold oneB; exact @decide_eq_false _ (_) r
        rw [e3, decide_eq_false]
        rintro rfl
        exact r (r1.trans r2.symm)
    rw [ed]
    exact q H2 (s1.trans s2)
end
end N44
set_option Elab.async false
set_option linter.all false
set_option maxRecDepth 100000
set_option maxHeartbeats 4000000
set_option pp.maxSteps 400
set_option pp.deepTerms false
namespace N44
open PySem PySem.Spec PyProof.Rows L2
open Xk Az Xnp
section
variable {P : Program} {w : World} {K : PySem.W.Frag} {mg : Str → Option Value} {base : Heap}
def spWiI : Sp := fun vs H Q _ => ∃ (n a b : Int), vs = [.int n, .int a, .int b] ∧ Q (.bl (decide (a ≤ n ∧ n ≤ b))) H
def spStrike (C : Addr) : Sp := fun vs H Q _ => ∃ (fr : Addr → Prop) (b c : Addr) (m k : Int) (es : List (Int × Pair)) (x y : N2), vs = [.ref b, .int k] ∧ Nb H C b c m es fr ∧ 0 ≤ k ∧ k < m ∧ (k, (x, y)) ∈ es ∧ (es.map (·.1)).Nodup ∧ (∀ e ∈ es, Gd e.2.1 ∧ Gd e.2.2) ∧ es.length ≤ 100 ∧
  ∀ r H', Nb H' C b c m (es.filter fun e => decide (e.1 ≠ k)) (fun x => H x = none) → B2n b c H H' → Q r H'
theorem drop_sync {H : Hp} (k : Int) : ∀ {kvs : List (Key × V)} {es : List (Int × Pair)}, kvs.map (·.1) = es.map (fun e => Sum.inl e.1) → PrL H (kvs.map (·.2)) (es.map (·.2)) →
    (dropK kvs (.inl k)).map (·.1) = (es.filter fun e => decide (e.1 ≠ k)).map (fun e => Sum.inl e.1) ∧ PrL H ((dropK kvs (.inl k)).map (·.2)) ((es.filter fun e => decide (e.1 ≠ k)).map (·.2))
  | [], [], _, _ => ⟨rfl, .nil⟩
  | [], _ :: _, h, _ => by simp at h
  | _ :: _, [], h, _ => by simp at h
  | (key0, v0) :: kvs, (n, p) :: es, h, pr => by
    rw [List.map_cons, List.map_cons] at h
    injection h with h1 h2
    have h1 : key0 = .inl n := h1
    subst h1
    rw [List.map_cons, List.map_cons] at pr
    cases pr with
    | @cons t a b _ _ _ q1 q2 q3 q4 =>
      obtain ⟨i1, i2⟩ := drop_sync k h2 q4
      unfold dropK at i1 i2 ⊢
      by_cases c : n = k
      · subst c
        rw [List.filter_cons_of_neg (by simp), List.filter_cons_of_neg (by simp)]
        exact ⟨i1, i2⟩
      · have c2 : ¬ (Sum.inl n : Key) = Sum.inl k := fun z => c (Sum.inl.inj z)
        rw [List.filter_cons_of_pos (by simpa using c2), List.filter_cons_of_pos (by simpa using c)]
        exact ⟨by rw [List.map_cons, List.map_cons, i1], .cons q1 q2 q3 i2⟩
theorem get_sync {H : Hp} {k : Int} {p : Pair} : ∀ {kvs : List (Key × V)} {es : List (Int × Pair)}, kvs.map (·.1) = es.map (fun e => Sum.inl e.1) → PrL H (kvs.map (·.2)) (es.map (·.2)) → (es.map (·.1)).Nodup → (k, p) ∈ es →
    ∃ (t : Addr) (a b : V), valV kvs (.inl k) = some (.ref t) ∧ H t = some (.tup [a, b]) ∧ W37.NmV H a p.1 ∧ W37.NmV H b p.2
  | _, [], _, _, _, h => by cases h
  | [], _ :: _, h, _, _, _ => by simp at h
  | (key0, v0) :: kvs, (n, p0) :: es, h, pr, nd, hin => by
    rw [List.map_cons, List.map_cons] at h
    injection h with h1 h2
    have h1 : key0 = .inl n := h1
    subst h1
    rw [List.map_cons, List.map_cons] at pr
    rw [List.map_cons] at nd
    have nd := List.nodup_cons.mp nd
    cases pr with
    | @cons t a b _ _ _ q1 q2 q3 q4 =>
      rcases List.mem_cons.mp hin with z | z
      · cases z
        refine ⟨t, a, b, ?_, q1, q2, q3⟩
        unfold valV
        rw [List.find?_cons_of_pos (by simp)]
        rfl
      · have ne : ¬ (Sum.inl n : Key) = Sum.inl k := fun w => nd.1 (by
          rw [Sum.inl.inj w]
          exact List.mem_map.mpr ⟨_, z, rfl⟩)
        obtain ⟨t', a', b', r⟩ := get_sync h2 q4 nd.2 z
        refine ⟨t', a', b', ?_, r.2⟩
        have r1 := r.1
        unfold valV at r1 ⊢
        rw [List.find?_cons_of_neg (by simpa using ne)]
        exact r1
theorem Nb.same {H H' : Hp} {C b c : Addr} {m : Int} {es : List (Int × Pair)} {fr : Addr → Prop} (h : Nb H C b c m es fr) (s : L2.Same H H') : Nb H' C b c m es fr := by
  obtain ⟨dx, l, g, kvs, e1, e2, e3, e4, e5, e6⟩ := h.ex
  exact ⟨dx, l, g, kvs, s _ _ e1, s _ _ e2, e3, e4.tp (W37.tp_same s), e5.same s, e6.same s⟩
theorem Nb.imp {H : Hp} {C b c : Addr} {m : Int} {es : List (Int × Pair)} {fr fr' : Addr → Prop} (h : Nb H C b c m es fr) (s : ∀ x ys, H x = some (.lst ys) → fr x → fr' x) : Nb H C b c m es fr' := by
  obtain ⟨dx, l, g, kvs, e1, e2, e3, e4, e5, e6⟩ := h.ex
  exact ⟨dx, l, g, kvs, e1, e2, e3, e4, e5, e6.imp s⟩
theorem ok_strike {f : Addr} {fd : FuncData} {C : Addr} (F : L2.Fun K "strike" "Names.strike" sNamesStrike f fd) (T : Txt K mg) (N : NbC K C) (cWi : Ca P w K mg base 2 "is_within" ["thing", "least", "most"] spWiI) (cSo : Mt P w K mg base 5 C "sort_out" ["self"] (spSort K)) (cCo : Mt P w K mg base 1 C "class_of" ["self", "name"] (spClassOf C)) (cAo : Mt P w K mg base 2 C "are_one" ["self", "one", "other"] (spAreOne C)) : FnOk P w K mg base CX0 6 f fd ["self", "number"] (spStrike C) := by
  obtain ⟨fS, fdS, mtS, okS, bdS⟩ := cSo.ex
  obtain ⟨fC, fdC, mtC, okC, bdC⟩ := cCo.ex
  obtain ⟨fA, fdA, mtA, okA, bdA⟩ := cAo.ex
  refine F.ok scNamesStrike (fun vs H Q E h => ?_) (fun cdv A outer s H vs Q E hr h => ?_)
  · obtain ⟨fr0, b, c, m, k, es, x, y, rfl, nb0, k0, k1, hin, nd, gd, l100, q⟩ := h
    rfl
  · obtain ⟨fr0, b, c, m, k, es, x, y, rfl, nb0, k0, k1, hin, nd, gd, l100, q⟩ := h
    refine ⟨_, (pss_cons (ps_if (pt_not (pt_val (pe_ca cWi hr (by decide) (by rfl) (pa_cons (pv 1) (pa_cons pe_int (pa_cons (pe_op op_sub (pe_fld (pv 0) rfl) pe_int) pa_nil)))))) (pss_one ps_no) pss_nil)
      (pss_cons (ps_if (pt_cmp (pc_dnotin (hu_of hr) (pv 1) (pe_fld (pv 0) rfl))) (pss_one ps_no) pss_nil)
      (pss_cons (ps_asg (pe_dget (hu_of hr) (pe_fld (pv 0) rfl) (pv 1) (fun _ _ => rfl)) (pg_tup (by rfl) (pgs_cons (pg_name (i := 2) scNamesStrike.nd rfl (.inl rfl)) (pgs_cons (pg_name (i := 3) scNamesStrike.nd rfl (.inl rfl)) pgs_nil))))
      (pss_cons (ps_set (i := 4) scNamesStrike.nd rfl (.inl rfl) ((pe_meth (pv 0) N.cls mtC okC (hr.mono (by decide)) bdC .nil pass0 (pa_cons (pv 2) pa_nil))))
      (pss_cons (ps_ddel (pe_fld (pv 0) rfl) (pv 1))
      (pss_cons (ps_expr ((pe_meth0 (pv 0) N.cls mtS okS (hr.mono (by decide)) bdS .nil pass0)))
      (pss_cons (ps_if (pt_val ((pe_meth (pv 0) N.cls mtA okA (hr.mono (by decide)) bdA .nil pass0 (pa_cons (pv 2) (pa_cons (pv 3) pa_nil))))) (pss_one (ps_ret (pe_tup pa_nil))) pss_nil)
      (pss_one (ps_ret (pe_tup (pa_cons (pe_tup (pa_cons (pv 4) (pa_cons (pe_callTy call_tuple_of (by rfl) T.tuple (by decide +kernel) (pa_cons (pe_callB (Xsd.cr_sortD (k := 0) (hr.mono (by decide))) (by rfl) T.sorted (by decide +kernel) (pa_cons (pe_lst (pa_cons (pe_meth (pv 0) N.cls mtC okC (hr.mono (by decide)) bdC .nil pass0 (pa_cons (pv 2) pa_nil)) (pa_cons (pe_meth (pv 0) N.cls mtC okC (hr.mono (by decide)) bdC .nil pass0 (pa_cons (pv 3) pa_nil)) pa_nil))) pa_nil)) pa_nil)) pa_nil))) pa_nil))))))))))), ?_⟩
    obtain ⟨dx, l0, g0, kvs, eb, ec, ek, pr, gp, lks0⟩ := nb0.ex
    obtain ⟨t0, va, vb, hv, et, na, nbv⟩ := get_sync ek pr nd hin
    have hs : (valV kvs (.inl k)).isSome = true := by rw [hv]; rfl
    obtain ⟨gx, gy⟩ := gd _ hin
    refine ⟨_, rfl, _, rfl, b, C, dx, _, .int m, rfl, eb, N.cls, N.many, rfl, m, 1, rfl, rfl, k, 0, m - 1, rfl, ?_⟩
    rw [decide_eq_true (show (0 : Int) ≤ k ∧ k ≤ m - 1 by omega)]
    refine ⟨_, rfl, iteF ?_⟩
    refine ⟨_, rfl, _, rfl, b, C, dx, _, .ref c, rfl, eb, N.cls, N.cnt, rfl, c, _, rfl, DGet.k (k := .inl k) ec, _, rfl, ?_⟩
    rw [hs]
    refine iteF ?_
    refine ⟨_, rfl, b, C, dx, _, .ref c, rfl, eb, N.cls, N.cnt, rfl, _, rfl, c, .ref t0, rfl, hv ▸ DGet.k (k := .inl k) ec, ?_⟩
    refine ⟨t0, _, rfl, SqT.of et, rfl, _, _, rfl, _, _, rfl, rfl, ?_⟩
    refine ⟨_, rfl, b, dx, _, rfl, eb, rfl, _, rfl, b, dx, g0, _, va, es.map (·.2), x, rfl, eb, rfl, gp, na, fun tw yw lw H1 s1 etw nlw cw => ?_⟩
    have eb1 := s1 _ _ eb
    have ec1 := s1 _ _ ec
    have cb : c ≠ b := ne_of ec eb (by intro z; cases z)
    refine ⟨_, rfl, b, C, dx, _, .ref c, rfl, eb1, N.cls, N.cnt, rfl, _, rfl, c, kvs, .inl k, rfl, ec1, rfl, hs, ?_⟩
    obtain ⟨dk, dp⟩ := drop_sync k ek (pr.tp (W37.tp_same s1))
    have tpc : W37.Tp H1 (L2.upd H1 c (.dK (dropK kvs (.inl k)))) := W37.tp_upd fun us z => by rw [ec1] at z; cases z
    have t12 := (W37.tp_same s1).trans tpc
    have eb2 : (L2.upd H1 c (.dK (dropK kvs (.inl k)))) b = some (.ins C dx (fsN m c l0 g0)) := by rw [upd_ne (Ne.symm cb)]; exact eb1
    have ec2 : (L2.upd H1 c (.dK (dropK kvs (.inl k)))) c = some (.dK (dropK kvs (.inl k))) := upd_same
    have pr2 := dp.tp tpc
    have fr2 : B2n b c H (L2.upd H1 c (.dK (dropK kvs (.inl k)))) := fun z o n1 n2 e => by rw [upd_ne n2]; exact s1 _ _ e
    generalize L2.upd H1 c (.dK (dropK kvs (.inl k))) = H2 at eb2 ec2 pr2 t12 fr2 ⊢
    obtain ⟨es2, ees⟩ : ∃ es2, es2 = es.filter fun e => decide (e.1 ≠ k) := ⟨_, rfl⟩
    rw [← ees] at dk pr2
    have l2 : es2.length ≤ 100 := by rw [ees]; exact Nat.le_trans (List.length_filter_le _ _) l100
    refine ⟨_, rfl, b, dx, _, rfl, eb2, rfl, b, C, dx, c, _, _, es2.map (·.2), rfl, eb2, N.cls, N.cnt, N.lnk, N.grp, by show 4 < 900; decide, rfl, ec2, pr2, by rw [List.length_map]; exact l2, fun d g H3 eb3 fr gp3 lk3 => ?_⟩
    rw [put_both] at eb3
    have ec3 := fr c _ cb ec2
    have tp3 : W37.Tp H2 H3 := fun z us e => fr z _ (fun w => by rw [w, eb2] at e; cases e) e
    have t13 := t12.trans tp3
    have fr3 : B2n b c H H3 := fun z o n1 n2 e => fr z o n1 (fr2 z o n1 n2 e)
    have n02 : ∀ x, H2 x = none → H x = none := fun x nx => by
      cases e : H x with
      | none => rfl
      | some o =>
        by_cases c1 : x = b
        · rw [c1, eb2] at nx; cases nx
        · by_cases c2 : x = c
          · rw [c2, ec2] at nx; cases nx
          · rw [fr2 x o c1 c2 e] at nx; cases nx
    have nb3 : Nb H3 C b c m es2 (fun x => H x = none) := ⟨dx, d, g, _, eb3, ec3, dk, pr2.tp tp3, gp3, lk3.imp fun x _ _ z => n02 x z⟩
    have na3 := na.tp t13
    have nbv3 := nbv.tp t13
    have gall : ∀ n ∈ nodes (es2.map (·.2)), Gd n := fun n hn => by
      obtain ⟨n2, j⟩ := mem_nodes.mp hn
      have sub : ∀ p ∈ es2.map (fun e : Int × Pair => e.2), ∃ e ∈ es, e.2 = p := fun p hp => by
        obtain ⟨e, he, rfl⟩ := List.mem_map.mp hp
        rw [ees] at he
        exact ⟨e, (List.mem_filter.mp he).1, rfl⟩
      rcases j with j | j
      · obtain ⟨e, he, z⟩ := sub _ j
        have := (gd e he).1
        rw [z] at this
        exact this
      · obtain ⟨e, he, z⟩ := sub _ j
        have := (gd e he).2
        rw [z] at this
        exact this
    rw [← ees] at q
    clear tp3 t12 tpc fr2 dp ec3 pr2 ec2 eb2 fr
    refine ⟨_, rfl, b, dx, _, rfl, eb3, rfl, _, rfl, _, rfl, b, dx, g, _, va, vb, _, x, y, rfl, eb3, rfl, rfl, gp3, na3, nbv3, gx, gy, gall, fun H4 s4 => ⟨_, rfl, ite2 (fun e => ?_) (fun e => ?_)⟩⟩
    · refine ⟨(by show 0 ≤ sizeLine; decide), fun T1 nT => ?_⟩
      have sT := s4.trans (same_upd nT (o := .tup []))
      exact q _ _ (nb3.same sT) fun z o n1 n2 e => sT _ _ (fr3 z o n1 n2 e)
    · have eb4 := s4 _ _ eb3
      refine ⟨_, rfl, _, rfl, b, dx, _, rfl, eb4, rfl, _, rfl, b, dx, g, _, va, _, x, rfl, eb4, rfl, gp3.same s4, na3.tp (W37.tp_same s4), fun t1 y1 l1 H5 s5 et1 nl1 c1 => ?_⟩
      have eb5 := s5 _ _ eb4
      refine ⟨_, rfl, b, dx, _, rfl, eb5, rfl, _, rfl, b, dx, g, _, vb, _, y, rfl, eb5, rfl, (gp3.same s4).same s5, (nbv3.tp (W37.tp_same s4)).tp (W37.tp_same s5), fun t2 y2 l2 H6 s6 et2 nl2 c2 => ?_⟩
      refine ⟨(by show 2 ≤ sizeLine; decide), fun LL nLL => ?_⟩
      have sL := same_upd nLL (o := .lst [.ref t1, .ref t2])
      have eL : (L2.upd H6 LL (.lst [.ref t1, .ref t2])) LL = some (.lst [.ref t1, .ref t2]) := upd_same
      have q1 := sL _ _ (s6 _ _ et1)
      have q2 := sL _ _ et2
      have q3 := nl1.tp (W37.tp_same (s6.trans sL))
      have q4 := nl2.tp (W37.tp_same sL)
      have sA := ((s4.trans s5).trans s6).trans sL
      generalize L2.upd H6 LL (.lst [.ref t1, .ref t2]) = H7 at eL q1 q2 q3 q4 sA ⊢
      refine ⟨LL, [((.ref t1, gD l1) : Xsd.Pd), (.ref t2, gD l2)], rfl, .inl (SqL.of eL), fun z hz => ?_, ?_, ?_, fun z hz => ?_, fun p np => ?_⟩
      · simp only [List.mem_cons, List.not_mem_nil, or_false] at hz
        rcases hz with rfl | rfl
        · exact .tup (SqT.of q1) (nml_dp q3)
        · exact .tup (SqT.of q2) (nml_dp q4)
      · intro u hu v hv
        have al : ∀ z ∈ [gD l1, gD l2], ∃ l, z = gD l := fun z hz => by
          simp only [List.mem_cons, List.not_mem_nil, or_false] at hz
          rcases hz with rfl | rfl
          · exact ⟨_, rfl⟩
          · exact ⟨_, rfl⟩
        obtain ⟨lu, rfl⟩ := al u hu
        obtain ⟨lv, rfl⟩ := al v hv
        show PySem.W.alike (.tuple (lu.map W37.nD)) (.tuple (lv.map W37.nD)) = true
        simp only [PySem.W.alike, alike_all]
      · refine .inl fun z hz => ?_
        simp only [List.map_cons, List.map_nil, List.mem_cons, List.not_mem_nil, or_false] at hz
        rcases hz with rfl | rfl
        · cases l1 with
          | nil => exact absurd c1.self (by simp)
          | cons y r => exact ⟨_, _, rfl⟩
        · cases l2 with
          | nil => exact absurd c2.self (by simp)
          | cons y r => exact ⟨_, _, rfl⟩
      · simp only [List.mem_cons, List.not_mem_nil, or_false] at hz
        have dd : ∀ l : List N2, (gD l).depth ≤ 50 := fun l => by
          have := dep_all l
          show (PyData.tuple (l.map W37.nD)).depth ≤ 50
          simp only [PyData.depth]
          omega
        rcases hz with rfl | rfl
        · exact dd _
        · exact dd _
      refine ⟨p, _, rfl, .inl ⟨SqL.of upd_same, fun t nt => ?_⟩⟩
      refine ⟨(by show 2 ≤ sizeLine; decide), fun T2 n2 => ⟨(by show 1 ≤ sizeLine; decide), fun T3 n3 => ?_⟩⟩
      have go : ∀ Hz, L2.Same H7 Hz → Q (.ref T3) Hz := fun Hz sz => q _ _ (nb3.same (sA.trans sz)) fun z o m1 m2 e => (sA.trans sz) _ _ (fr3 z o m1 m2 e)
      exact go _ ((same_upd np).trans ((same_upd nt).trans ((same_upd n2).trans (same_upd n3))))
end
end N44
set_option Elab.async false
set_option linter.all false
set_option maxRecDepth 100000
set_option maxHeartbeats 4000000
set_option pp.maxSteps 400
set_option pp.deepTerms false
/-! Own exceptions of any built-in family, whose __init__ asks the family's __init__ and stores one field. -/
namespace Xle
open PySem PySem.Spec PyProof.Rows L2
/-- own classes, then what a built-in class rests on -/
def mroL (cs : List Addr) (tl : List Value) : List Value := cs.map Value.ref ++ tl
theorem mro_has (cs : List Addr) (tl : List Value) (T : String) : (mroL cs tl).contains (.type T) = tl.contains (.type T) := by
  unfold mroL
  induction cs with
  | nil => rfl
  | cons c r ih => rw [List.map_cons, List.cons_append, List.contains_cons, ih]; rfl
theorem mro_pass {tl : List Value} {self : Value} (h : refuseLoop self "__setattr__" tl = pure ()) (cs : List Addr) : refuseLoop self "__setattr__" (mroL cs tl) = pure () := by
  unfold mroL
  induction cs with
  | nil => exact h
  | cons c r ih => rw [List.map_cons, List.cons_append, refuseLoop_ref]; exact ih
/-- what is known of a built-in family -/
structure Fam (B newId initId : String) (tl : List Value) : Prop where
  sf : StoreFacts B tl "object.__setattr__" "object"
  bf : ExcBaseFacts B newId initId tl
theorem fam_lookup : Fam "LookupError" "LookupError.__new__" "LookupError.__init__" [.type "LookupError", .type "Exception", .type "BaseException", .type "object"] := ⟨F.store_LookupError, F.excBase_LookupError⟩
/-- an own class over it -/
structure OfC (K : PySem.W.Frag) (newId : String) (tl : List Value) (C : Addr) : Prop where
  cls : ∃ nm q N bs cs sn sub ab col dd k0 k1 k2 k3 k5, K.lookup C = some (excClassObj nm q C N bs (mroL cs tl) true sn sub ab col dd k0 k1 k2 k3 k5 newId)
  sa : PySem.W.findIn K (.ref C) "__setattr__" = some (some (.builtin "object.__setattr__"))
  exC : PySem.W.subIn K (.ref C) (.type "BaseException") = some true
  tyC : PySem.W.typeIn K (.ref C) = some (.type "type")
  kC : PySem.W.keepIn K (.ref C) = true
section
open Builtin Builtin.ObjectAttr PySem.W PySem.Calls
variable {prog : Program} {w : World} {A : Around} {R : Result → Shared → Prop} {hp : Heap} {g : Array GenState} {d : Drawn} {t : Nat} {os : OsState}
/-- its first field -/
theorem first_field {B newId initId : String} {tl : List Value} (FF : Fam B newId initId tl) {K : Frag} {f : Str} {tk : Tok} {v : Value} {x C : Addr} {fv : Array Value} {cs : List Addr} {cd : ClassData} (X : K.In hp) (hx : hp.get? x = some { cls := .ref C, data := .fields fv })
    (hcd : clsIn K C = some cd) (hm : cd.mro = .ref C :: mroL cs tl) (hh : cd.hasDict = true) (ha : findIn K (.ref C) f = some none)
    (hq : ∀ h2 tk2 dx, (∀ b o, b ≠ x → hp.get? b = some o → h2.get? b = some o) → hp.objs.size ≤ dx → dx ≠ x → h2.get? x = some { cls := .ref C, dict := some dx, data := .fields fv } →
      h2.Ns1 dx (fun y => if y = f then some v else none) → R (.ok (.ret .none)) ⟨h2, g, d, tk2, os⟩) :
    codeAny (model prog w) A (.call (.builtin "object.__setattr__") ⟨[.ref x, .str f tk, v], []⟩) R ⟨hp, g, d, t, os⟩ := by
  have at_ : InstAt hp x { cls := .ref C, data := .fields fv } C none := ⟨hx, rfl, rfl, trivial⟩
  have ST := PySem.F.store_object
  have mro2 : cd.mro = mroL (C :: cs) tl := hm
  have full : cd.mro.isEmpty = false := by rw [hm]; rfl
  have ob : cd.mro.contains (.type "object") = true := by rw [mro2, mro_has]; exact FF.sf.hasOwner
  have old : x < hp.objs.size := Heap.lt_size hx
  have isO : Looks (model prog w) hp (isInstance (.ref x) (.type "object")) true := by
    refine at_.type.andThen (looks_mroIn X ?_)
    unfold mroIn
    rw [hcd, Option.bind_some, if_neg (by rw [full]; decide), ob]
  refine codeAny_call_builtin ST.slot.plain ST.entry ?_
  refine @check_slot (model prog w) _ _ ⟨hp, g, d, t, os⟩ "object.__setattr__" "object" "__setattr__" (.ref x) [.str f tk, v] [] _ ST.kind ST.split isO (ST.args (.ref x) (.str f tk) v) ?_
  have cl : Looks (model prog w) hp (classData C) cd := looks_clsIn X hcd
  have row : Looks (model prog w) hp (mroOf (.ref C)) cd.mro := cl.andThen .now
  rw [osa_eq, refuse_eq]
  refine wpAny_bind (wpAny_bind (at_.type.at (wpAny_bind (row.at ?_))))
  rw [mro2, mro_pass (FF.sf.passes _)]
  have tk0 : Looks (model prog w) hp (storeTaker? none) none := .now
  refine wpAny_pure (wpAny_bind (at_.type.at (wpAny_bind ((looks_findIn X ha).at (wpAny_bind (tk0.at ?_))))))
  show wpAny _ _ (storeInOwnDict (.ref x) (.ref C) (.str f tk) f v false) _ _ _
  obtain ⟨c1, c2, c3, c4, c5, c6, c7, c8, c9, c10, c11⟩ := cd
  obtain rfl : c6 = true := hh
  unfold storeInOwnDict ownDictForStores
  repeat (first | with_reducible refine PySem.HandSPX.store_in_new ?_ ?_ | with_reducible refine wpAny_loadPart_at hx ?_ | with_reducible refine cl.at ?_ | wp_step)
  · exact ⟨_, #[], _, (Heap.get?_update_ne _ _ _ _ (Nat.ne_of_gt old)).trans (Heap.get?_push_at rfl rfl), rfl, fun e he => absurd he (by simp), fun _ => rfl⟩
  · intro h2 tk2 ns sb
    refine hq h2 tk2 hp.objs.size (fun b o nb eb => ?_) (Nat.le_refl _) (Nat.ne_of_gt old) ?_ ns
    · rw [sb.2 b (Nat.ne_of_lt (Heap.lt_size eb)), Heap.get?_update_ne _ _ _ _ nb]
      exact Heap.get?_push_of_some _ eb
    · rw [sb.2 x (Nat.ne_of_lt old)]
      exact Heap.get?_update_self _ (Heap.get?_push_of_some _ hx) rfl
end
section
variable {B newId initId : String} {tl : List Value} {X : Cx} {pins : List (Addr × Obj)} {σ : L2.St} {H : Hp} {s : Shared} {a C : Addr} {f : Str} {y : V} {u : Value} {E : Value → Shared → Prop} {A : Around}
theorem store1 {Q : Unit → Shared → Prop} (FF : Fam B newId initId tl) (T : OfC X.K newId tl C) (I : Inv X pins σ H s) (e : H a = some (exo a C none)) (hno : PySem.W.findIn X.K (.ref C) f = some none) (ry : RelV y u)
    (h : ∀ dx s2, H dx = none → dx ≠ a → Inv X pins σ (upd (upd H dx (exd dx [(f, y)])) a (exo a C (some dx))) s2 → Q () s2) : wpAny (model X.prog X.w) A (setAttr (.ref a) f u) Q E s := by
  obtain ⟨nm, q, N, bs, cs, sn, sub, ab, col, dd, k0, k1, k2, k3, k5, hC⟩ := T.cls
  have cd : ∃ cd, PySem.W.clsIn X.K C = some cd ∧ cd.mro = .ref C :: mroL cs tl ∧ cd.hasDict = true := by
    unfold PySem.W.clsIn
    rw [hC]
    exact ⟨_, rfl, rfl, rfl⟩
  obtain ⟨cd, hcd, hmr, hdc⟩ := cd
  obtain ⟨t1, ho⟩ := exo_at I.hok e
  obtain ⟨hp, g, d, t, os⟩ := s
  refine PySem.W.set_plain I.kIn (ox := { cls := .ref C, dict := none, data := .fields #[.ref t1, .none, .none, .none, .bool false, .none] }) (od := none) ⟨ho, rfl, rfl, trivial⟩ T.sa ?_
  refine first_field FF I.kIn ho hcd hmr hdc hno fun h2 tk2 dx keep dn dne hx hn => ?_
  have hnd : H dx = none := I.hok.fresh dn
  have notd : ∀ {b : Addr} {o : Obj}, hp.get? b = some o → b ≠ dx := fun {b o} z => Nat.ne_of_lt (Nat.lt_of_lt_of_le (Heap.lt_size z) dn)
  have nota : ∀ {b : Addr}, H b = none → b ≠ a := fun {b} n z => by rw [z, e] at n; cases n
  -- what is tracked elsewhere stays
  have els : ∀ {b : Addr} {o : HO}, H b = some o → o ≠ exo a C none → upd (upd H dx (exd dx [(f, y)])) a (exo a C (some dx)) b = some o := fun {b o} q ne => by
    have ba : b ≠ a := fun z => by rw [z, e] at q; exact ne (Option.some.inj q).symm
    rw [upd_ne ba, upd_ne (ne_of_none q hnd), q]
  have U : Un X.fs [] H (upd (upd H dx (exd dx [(f, y)])) a (exo a C (some dx))) hp h2 :=
    ⟨fun b o q n _ _ => keep b o (nota n) q, fun b o q n _ _ => ⟨o.slots, keep b o (nota n) q⟩, fun b o q n _ => by rw [upd_ne (nota n), upd_ne (notd q)]; exact n,
     fun b o q _ => by
      by_cases hb : b = a
      · exact ⟨_, by rw [hb]; exact hx⟩
      · exact ⟨o, keep b o hb q⟩,
     fun b xs q => els q (Ne.symm exo_tup), fun b o v q => els q (Ne.symm exo_frz), fun b ps q => ⟨#[], by rw [els q (Ne.symm exo_tbl)]; simp⟩⟩
  refine h dx _ hnd dne (I.un (t' := tk2) U fun b o q => ?_)
  by_cases hb : b = a
  · rw [hb, upd_same] at q
    cases q
    rw [hb]
    exact exo_ok hx
  rw [upd_ne hb] at q
  by_cases hd : b = dx
  · rw [hd, upd_same] at q
    cases q
    rw [hd]
    exact exd_ok hn (relO_put (fs := []) ry fun _ => True.intro)
  rw [upd_ne hd] at q
  refine (I.hok b o q).stay (fun c v hc z => keep c v ?_ z) (fun c hc => els hc (Ne.symm exo_own)) (fun c xs hc => els hc (Ne.symm exo_tup))
  rcases hc with hc | hc
  · rw [hc]; exact hb
  · exact at_ne e hc exo_own
/-- the family's __init__: nothing of it is told -/
theorem init1 {us : List Value} {Q : Value → Shared → Prop} (FF : Fam B newId initId tl) (T : OfC X.K newId tl C) (I : Inv X pins σ H s) (e : H a = some (exo a C none)) (hl : us.length ≤ sizeLine) (h : ∀ s2, Inv X pins σ H s2 → Q .none s2) :
    wpAny (model X.prog X.w) A (call (.builtin initId) (.ref a :: us)) Q E s := by
  obtain ⟨nm, q, N, bs, cs, sn, sub, ab, col, dd, k0, k1, k2, k3, k5, hC⟩ := T.cls
  obtain ⟨t1, ho⟩ := exo_at I.hok e
  obtain ⟨hp, g, d, t, os⟩ := s
  refine wpAny_call (PySem.HandSPX.init_base FF.bf (mro_has cs tl) (I.kIn _ _ hC) ho hl fun h2 t2 k hx => ?_)
  have J := I.write (t' := t) (x := a) (e := a) (o := exo a C none) (by rw [e]; exact True.intro) (.inl rfl) k ⟨_, hx⟩ (exo_ok hx)
  rw [show upd H a (exo a C none) = H from funext fun b => by
    by_cases hb : b = a
    · rw [hb, upd_same, e]
    · rw [upd_ne hb]] at J
  exact h _ J
/-! ### readings, rules -/
/-- the own family's class that is asked for its __init__ -/
structure BaC (K : PySem.W.Frag) (initId : String) (D : Addr) : Prop where
  rd : PySem.W.readsIn K D (.type "type") = true
  sp : PySem.W.specialIn K (.ref D) "__getattribute__" = some (some (.builtin "type.__getattribute__"))
  fi : PySem.W.findCls K (.ref D) (.type "type") "__init__" = some (.val (.builtin initId))
def tFamI (K : PySem.W.Frag) (newId : String) (tl : List Value) (ta : TA) : TE := fun σ H Q => ta σ H fun vs H1 => ∃ (a C : Addr) (ws : List V), vs = .ref a :: ws ∧ ws.length ≤ 1000 ∧ OfC K newId tl C ∧ H1 a = some (exo a C none) ∧ Q .non H1
theorem pe_fam {D : Addr} {x : Str} {e : Expr} {es : List Expr} {ta : TA} {p1 p2 pos : Pos} {pl : Sem Bool} (FF : Fam B newId initId tl) (T : BaC X.K initId D) (gl : Gl X x) (mg : X.mg x = some (.ref D)) (ha : PA X (e :: es) ta) (hdb : (x == ("__debug__" : Str)) = false := by decide)
    (hc : eval (.Call (.Attribute (.Name x p1) "__init__" p2) (e :: es) [] pos) X.env = (do
      let ov ← eval (.Name x p1) X.env
      standAt p2.atName
      let (f, first) ← holding [ov] (getMethod ov "__init__" pl)
      callWith pos f first (backTo pos (starEach (e :: es) X.env)) (backToKw pos (keywordEach [] X.env))) := by rfl)
    (he : starEach (e :: es) X.env = (false, eval e X.env) :: starEach es X.env := by rfl) (hpl : (backTo pos (starEach es X.env)).any (·.1) = false := by rfl) (hin : PySem.W.handedIn (.builtin initId) = true := by decide +kernel) :
    PE X (.Call (.Attribute (.Name x p1) "__init__" p2) (e :: es) [] pos) (tFamI X.K newId tl ta) := by
  refine ⟨fun pins s σ H Q I h => PySem.W.methodCall_KW (ld_glob I gl mg ?_ hdb) hc⟩
  refine PySem.W.method_cls I.kIn T.sp (PySem.W.cls_value I.kIn T.rd T.fi hin ?_)
  refine PyProof.Rows.callWith_method1 (thn (ha.run pos pins _ σ H _ (I.tok _) h) fun us s1 z => ?_) he hpl
  obtain ⟨vs, H1, I1, r1, a, C, ws, rfl, hl, Tx, ea, q⟩ := z
  cases r1 with
  | @cons _ u0 _ ur ra rw' =>
    obtain rfl : u0 = Value.ref a := ra
    exact init1 FF Tx I1 ea (by rw [← Paired.length rw', sizeLine_eq]; omega) fun s2 J => ⟨.non, H1, J, rfl, q⟩
/-- self.f = e, the first and only field -/
def tOs1 (K : PySem.W.Frag) (newId : String) (tl : List Value) (f : Str) (to te : TE) : TS := fun D σ H => te σ H fun y H1 => to σ H1 fun x H2 => ∃ a C : Addr, x = .ref a ∧ OfC K newId tl C ∧ PySem.W.findIn K (.ref C) f = some none ∧
  H2 a = some (exo a C none) ∧ ∀ dx, H2 dx = none → dx ≠ a → D.nx σ (upd (upd H2 dx (exd dx [(f, y)])) a (exo a C (some dx)))
theorem ps_os1 {o e : Expr} {to te : TE} {p' pos : Pos} (FF : Fam B newId initId tl) (ho : PE X o to) (he : PE X e te) (hs : swapsWith e (some (.Attribute o f p')) pos.line X.env = pure false := by rfl) : PS X (.Assign [.Attribute o f p'] e pos) (tOs1 X.K newId tl f to te) := by
  refine ⟨fun pins s σ H D I h => plainObj_wpAny_Assign_Attribute (thn (he.run pins s σ H _ I h) fun v s1 z => ?_) hs⟩
  obtain ⟨y, H1, I1, r1, q1⟩ := z
  refine thn (ho.run pins s1 σ H1 _ I1 q1) fun u s2 z => ?_
  obtain ⟨x, H2, I2, r2, a, C, rfl, T, hno, ea, q⟩ := z
  obtain rfl : u = Value.ref a := r2
  exact store1 FF T I2 ea hno r1 fun dx s3 n ne J => ⟨σ, _, J, q dx n ne⟩
/-- C(e, ..), whose own __init__ keeps sp -/
theorem pmk_of {CX : CXT} {x : Str} {C fI : Addr} {k : Nat} {fd : FuncData} {ps : List Str} {sp : Sp} {ds : List Value} {dvs : List V} {e : Expr} {es : List Expr} {ta : TA} {p pos : Pos} (FF : Fam B newId initId tl) (T : OfC X.K newId tl C)
    (iC : PySem.W.findIn X.K (.ref C) "__init__" = some (some (.ref fI))) (tI : PySem.W.typeIn X.K (.ref fI) = some (.type "function")) (F1 : FnOk X.prog X.w X.K X.mg X.base CX k fI fd ps sp) (hr : Room (k + 1) X.A) (hb : Binds X.K fd ps ds) (hd : Vals dvs ds)
    (hx : Passes CX X (fun _ _ _ => False)) (hg : Gl X x) (hm : X.mg x = some (.ref C)) (ha : PA X (e :: es) ta) (hdb : (x == ("__debug__" : Str)) = false := by decide)
    (he : starEach (e :: es) X.env = (false, eval e X.env) :: starEach es X.env := by rfl) (hpl : (backTo pos (starEach es X.env)).any (·.1) = false := by rfl) :
    PMk X (.Call (.Name x p) (e :: es) [] pos) (tMkO C sp dvs ta) := by
  intro pins s σ H Q I h
  obtain ⟨nm, q, N, bs, cs, sn, sub, ab, col, dd, k0, k1, k2, k3, k5, hC⟩ := T.cls
  refine wpAny_Call_Name_kw (ld_glob I hg hm ?_ hdb)
  refine PySem.W.callWith_K (h₀ := X.base) I.ok.mod.kin T.kC (thn (ha.run pos pins s σ H _ I h) fun us s1 z => ?_) he hpl
  obtain ⟨vs, H1, I1, r1, hz, q1⟩ := z
  refine ⟨I1.kIn, ?_⟩
  show wpAny _ _ (call (.ref C) us) _ _ _
  obtain ⟨hp, g, dr, tk, os⟩ := s1
  -- the new object, its args ahead of it
  obtain ⟨m, em⟩ : ∃ m : Addr, m = hp.objs.size + 1 := ⟨_, rfl⟩
  have le : hp.objs.size ≤ m := by rw [em]; exact Nat.le_succ _
  obtain ⟨h1, eh⟩ : ∃ h1, h1 = (hp.push (PySem.W.kdv_tup us)).push (PySem.HandSPX.excO C hp.objs.size) := ⟨_, rfl⟩
  have old : ∀ b o, hp.get? b = some o → h1.get? b = some o := fun b o z => by rw [eh]; exact Heap.get?_push_of_some _ (Heap.get?_push_of_some _ z)
  have new : h1.get? m = some (PySem.HandSPX.excO C hp.objs.size) := by rw [eh, em]; heap_get
  have hq := q1 m (I1.hok.fresh le)
  have I2 : Inv X pins σ (upd H1 m (exo m C none)) ⟨h1, g, dr, tk, os⟩ := I1.laid (t' := tk) (a := m) (o := exo m C none) (h' := h1) old le (exo_ok new)
  have r2 : Vals (V.ref m :: (vs ++ dvs)) (Value.ref m :: (us ++ ds)) := .cons rfl (r1.append hd)
  have ln : (Value.ref m :: us ++ ds).length = ps.length := by
    have z := r2.length
    rw [F1.len _ _ _ _ hq] at z
    exact z.symm
  subst em eh
  refine wpAny_call (PySem.HandSPX.call_own FF.bf (mro_has cs tl) (I1.kIn _ _ hC) (PySem.W.looks_findIn I1.kIn iC) (fun self => PySem.W.bind_fn I1.kIn self tI) (by rw [← Paired.length r1, sizeLine_eq]; omega) ?_)
  refine codeAny_mono (F1.run _ X.stack _ _ ⟨Value.ref (hp.objs.size + 1) :: us, []⟩ (Value.ref (hp.objs.size + 1) :: (us ++ ds)) _ _ (fun _ _ _ => False) (hr.make C us []) (I2.env0.make C us []) (hb _ (Value.ref (hp.objs.size + 1) :: us) I2.kIn ln) r2 hq) fun r s2 z => ?_
  match r, z with
  | .error er, z => exact hx pins σ _ _ er s2 I2 z
  | .ok .next, z => exact z.elim
  | .ok .brk, z => exact z.elim
  | .ok .cont, z => exact z.elim
  | .ok (.ret u), z =>
    obtain ⟨v, H2, os2, bare2, un2, hok2, rv, rfl, d, fs, ea, ed, hd1, q2⟩ := z
    obtain ⟨h2, g2, d2, t2, os3⟩ := s2
    exact ⟨rv, mk_end (raises_own T.exC T.tyC) I1 le old un2 hok2 os2 bare2 ea ed hd1 q2⟩
end
end Xle
set_option Elab.async false
set_option linter.all false
set_option maxRecDepth 100000
set_option maxHeartbeats 4000000
set_option pp.maxSteps 400
set_option pp.deepTerms false
/-! zip(a list, a tuple) of one length; a list != [] -/
namespace Xt
open PySem PySem.Spec PyProof.Rows L2
def ItzLT (K : PySem.W.Frag) (a b : Addr) : It :=
  ⟨fun i H => ∃ (xs ys : List V) (x y : V), SqL K H a xs ∧ SqT K H b ys ∧ xs[i]? = some x ∧ ys[i]? = some y,
    fun i H v H' => ∃ T x y, v = .ref T ∧ H T = none ∧ H' = upd H T (.tup [x, y]) ∧ (∀ xs, SqL K H a xs → xs[i]? = some x) ∧ ∀ ys, SqT K H b ys → ys[i]? = some y,
    fun i H => ∃ xs ys : List V, SqL K H a xs ∧ SqT K H b ys ∧ xs.length = i ∧ ys.length = i⟩
theorem turn_zipLT {P : Program} {w : World} {K : PySem.W.Frag} {elts : List Expr} {kk : Nat} {tpos : Pos} {a b z TI TO i1 i2 : Addr} (D : ZipSep2 z TI TO i1 i2 [i1, a] [i2, b]) (n1 : a ≠ i1) (n2 : b ≠ i2) :
    Turn P w K (.Tuple elts kk tpos) (ItzLT K a b) [z, TI, TO, i1, i2] z (fun i h => IsZip h z TI TO .none ∧ IsTupOf2 h TI (.ref i1) (.ref i2) ∧ (∃ x y, IsTupOf2 h TO x y) ∧ h.IsListIter i1 a i ∧ h.IsTupleIter i2 b i) where
  mem := by simp
  obj := fun i h ⟨h1, h2, ⟨x, y, h3⟩, ⟨o1, e1, _, d1⟩, ⟨o2, e2, _, d2⟩⟩ c hc => by
    simp only [List.mem_cons, List.not_mem_nil, or_false] at hc
    rcases hc with rfl | rfl | rfl | rfl | rfl
    · exact ⟨_, h1, fun _ q => nomatch q⟩
    · exact ⟨_, h2, fun _ q => nomatch q⟩
    · exact ⟨_, h3, fun _ q => nomatch q⟩
    · exact ⟨o1, e1, fun _ q => by rw [d1] at q; cases q⟩
    · exact ⟨o2, e2, fun _ q => by rw [d2] at q; cases q⟩
  keep := fun i h h' ⟨h1, h2, ⟨x, y, h3⟩, h4, h5⟩ k => ⟨k z (by simp) _ h1, k TI (by simp) _ h2, ⟨x, y, k TO (by simp) _ h3⟩, h4.at fun o q => k i1 (by simp) o q, h5.at fun o q => k i2 (by simp) o q⟩
  item := by
    intro X hP hw hK hc i pins s σ H E I hf st hg
    subst hP hw hK
    obtain ⟨hz, hTI, ⟨x0, y0, hTO⟩, t1, t2⟩ := st
    obtain ⟨xs, ys, x, y, hqx, hqy, hx, hy⟩ := hg
    obtain ⟨us, r1, p1, _⟩ := I.list hqx
    obtain ⟨ws, r2, p2, _⟩ := I.tuple hqy
    obtain ⟨u, hu, ru⟩ := r1.get hx
    obtain ⟨v, hv, rv⟩ := r2.get hy
    have l1 : i < us.toArray.size := by simpa using (List.getElem?_eq_some_iff.mp hu).1
    have l2 : i < ws.toArray.size := by simpa using (List.getElem?_eq_some_iff.mp hv).1
    have nh := I.ok.hd hc
    have zl : z < s.heap.objs.size := Heap.lt_size hz
    refine wpAny_pyNext_zipD2_item D (Draws.list (A := X.A.in1) nh i1 a n1 us.toArray) (Draws.tuple (A := X.A.in1) nh i2 b n2 ws.toArray) hz hTI hTO ⟨t1, p1.isList⟩ ⟨t2, p2⟩ l1 l2 fun u' v' h' tk eu ev z' TO' s1 s2 hT hsz hk => ?_
    obtain rfl : u = u' := by
      have : us.toArray[i]? = some u := by simpa using hu
      rw [this] at eu; cases eu; rfl
    obtain rfl : v = v' := by
      have : ws.toArray[i]? = some v := by simpa using hv
      rw [this] at ev; cases ev; rfl
    refine ⟨_, rfl, wpAny_letOwnedTupleGo_zip (s := { s with heap := h', toks := tk }) z' fun h'' z'' sb => ?_⟩
    have hT2 : h''.get? s.heap.objs.size = some { cls := .type "tuple", data := .seq #[u, v] } := (sb.2 _ (Nat.ne_of_gt zl)).trans hT
    have I1 : Inv X pins σ (upd H s.heap.objs.size (.tup [x, y])) { s with heap := h'', toks := tk } :=
      I.turnedNew (ch := [z, TI, TO, i1, i2]) (fun c o hb q => (sb.2 c (fun e => hb (by simp [e]))).trans (hk c o (fun e => hb (by simp [e])) (fun e => hb (by simp [e])) (fun e => hb (by simp [e])) (fun e => hb (by simp [e])) q)) hf (Nat.le_refl _)
        ⟨by show 2 ≤ sizeLine; decide, [u, v], .cons ru (.cons rv .nil), ⟨_, hT2, rfl, _, rfl⟩⟩
    refine ⟨.ref s.heap.objs.size, _, I1, rfl, ⟨_, x, y, rfl, I.hok.fresh (Nat.le_refl _), rfl, fun l hl => by rw [I.list_inj hl hqx]; exact hx, fun l hl => by rw [I.tuple_inj hl hqy]; exact hy⟩,
      ⟨z'', (sb.2 _ D.TIz).trans (hk _ _ D.TIz D.TITO D.TIi1 D.TIi2 hTI), ⟨u, v, (sb.2 _ D.TOz).trans TO'⟩, s1.1.at fun o q => (sb.2 _ (Ne.symm D.zi1)).trans q, s2.1.at fun o q => (sb.2 _ (Ne.symm D.zi2)).trans q⟩, fun c hcm => ?_⟩
    have lt : c < s.heap.objs.size := by
      have hcm' := hcm
      simp only [List.mem_cons, List.not_mem_nil, or_false] at hcm'
      rcases hcm' with rfl | rfl | rfl | rfl | rfl
      · exact zl
      · exact Heap.lt_size hTI
      · exact Heap.lt_size hTO
      · exact Heap.lt_size t1.choose_spec.1
      · exact Heap.lt_size t2.choose_spec.1
    rw [upd_ne (Nat.ne_of_lt lt)]
    exact (hf c hcm).1
  done := by
    intro X hP hw hK hc i pins s σ H E I hf st hg
    subst hP hw hK
    obtain ⟨hz, hTI, ⟨x0, y0, hTO⟩, t1, t2⟩ := st
    obtain ⟨xs, ys, hqx, hqy, lx, ly⟩ := hg
    obtain ⟨us, r1, p1, _⟩ := I.list hqx
    obtain ⟨ws, r2, p2, _⟩ := I.tuple hqy
    have e1 : us.toArray.size = i := by rw [List.size_toArray, ← r1.length]; exact lx
    have e2 : ws.toArray.size = i := by rw [List.size_toArray, ← r2.length]; exact ly
    have nh := I.ok.hd hc
    exact wpAny_pyNext_zipD2_end D (Draws.list (A := X.A.in1) nh i1 a n1 us.toArray) (Draws.tuple (A := X.A.in1) nh i2 b n2 ws.toArray) hz hTI hTO ⟨t1, p1.isList⟩ ⟨t2, p2⟩ (by omega) (by omega) (.inl e1.symm) fun h' tk hk =>
      ⟨rfl, I.turnedL (t' := tk) (ch := [z, TI, TO, i1, i2]) (fun c o hb q => hk c o (fun e => hb (by simp [e])) (fun e => hb (by simp [e])) (fun e => hb (by simp [e])) (fun e => hb (by simp [e])) q) hf⟩
  self := fun A i s Q E st h => wpAny_pyIter_zip st.1 h
def iZipLT (K : PySem.W.Frag) (ta : TA) : TI := fun σ H R => ta σ H fun vs H1 => ∃ a b xs ys, vs = [.ref a, .ref b] ∧ SqL K H1 a xs ∧ SqT K H1 b ys ∧ R (ItzLT K a b) H1
theorem pi_zipLT {X : Cx} {e e2 : Expr} {ta : TA} {p pos tpos : Pos} {elts : List Expr} {kk : Nat} (hg : Gl X "zip") (hm : X.mg "zip" = none) (ha : PA X [e, e2] ta)
    (hs : starEach [e, e2] X.env = (false, eval e X.env) :: starEach [e2] X.env := by rfl) (hpl : (backTo pos (starEach [e2] X.env)).any (·.1) = false := by rfl) :
    PI X (.Tuple elts kk tpos) (.Call (.Name "zip" p) [e, e2] [] pos) (iZipLT X.K ta) := by
  refine ⟨fun pins s σ H R I h => ?_⟩
  refine Call_ (ld_blt I hg hm PyProof.Rows.boot_zip (PyProof.Rows.callWith_type1 (thn (ha.run pos pins s σ H _ I h) fun us s1 ⟨vs, H1, I1, r1, q1⟩ => ?go) hs hpl))
  case go =>
    obtain ⟨a, b, xs, ys, rfl, hqx, hqy, q⟩ := q1
    cases r1 with
    | cons r rr =>
      cases rr with
      | cons r' rr =>
        cases rr; cases r; cases r'
        obtain ⟨us, v1, p1, _⟩ := I1.list hqx
        obtain ⟨ws, v2, p2, _⟩ := I1.tuple hqy
        have la : a < s1.heap.objs.size := p1.lt
        have lb : b < s1.heap.objs.size := by obtain ⟨o, ho, _⟩ := id p2; exact Heap.lt_size ho
        refine zip_begins2 (begins_list a us.toArray) (begins_tuple b ws.toArray) p1.isList p2 fun h' hz hTI hTO h1 h2 _ hk => wpAny_pyIter_zip hz ?_
        have I2 : Inv X pins σ H1 { s1 with heap := h' } := I1.kept (t' := s1.toks) hk
        refine ⟨s1.heap.objs.size + 4, [s1.heap.objs.size + 4, s1.heap.objs.size + 2, s1.heap.objs.size + 3, s1.heap.objs.size, s1.heap.objs.size + 1], _, _, H1, rfl, I2,
          turn_zipLT (zip_sep2 (N := s1.heap.objs.size) (fp1 := [a]) (fp2 := [b]) (fun c hc => by rw [List.mem_singleton.mp hc]; exact la) (fun c hc => by rw [List.mem_singleton.mp hc]; exact lb)) (Nat.ne_of_lt la) (Nat.ne_of_lt (Nat.lt_succ_of_lt lb)),
          ⟨hz, hTI, ⟨_, _, hTO⟩, ⟨_, h1, rfl, rfl⟩, ⟨_, h2, rfl, rfl⟩⟩, fun c hc => ?_, q⟩
        have le : s1.heap.objs.size ≤ c := by
          simp only [List.mem_cons, List.not_mem_nil, or_false] at hc
          rcases hc with rfl | rfl | rfl | rfl | rfl
          · exact Nat.le_add_right _ _
          · exact Nat.le_add_right _ _
          · exact Nat.le_add_right _ _
          · exact Nat.le_refl _
          · exact Nat.le_add_right _ _
        exact I1.fpOk le (I1.hok.fresh le)
theorem walk_zipLT {K : PySem.W.Frag} {a b : Addr} {xs ys : List V} (e : xs.length = ys.length) : Walk (ItzLT K a b) xs.length (fun H => SqL K H a xs ∧ SqT K H b ys) (YPair (fun i => xs[i]?) (fun i => ys[i]?)) := by
  refine ⟨fun i H hi q => ⟨xs, ys, xs[i], ys[i]'(by omega), q.1, q.2, List.getElem?_eq_getElem hi, List.getElem?_eq_getElem (by omega)⟩, fun H q => ⟨xs, ys, q.1, q.2, rfl, e.symm⟩, fun i H v H' hi q y => ?_⟩
  obtain ⟨T, x, z, h1, h2, h3, h4, h5⟩ := y
  exact ⟨T, x, z, h1, h2, h3, h4 xs q.1, h5 ys q.2⟩
/-- a list of any things != [] -/
theorem op_neL0 {X : Cx} (hu : X.A.units + 64 < cLine) : OpR X (compareOp .NotEq) (fun x y H Q => ∃ a b xs, x = .ref a ∧ y = .ref b ∧ H a = some (.lst xs) ∧ H b = some (.lst []) ∧ Q (.bl (!xs.isEmpty)) H) := by
  intro pins s σ H x y v u Q I rx ry h
  obtain ⟨a, b, xs, rfl, rfl, ea, eb, q⟩ := h
  cases rx; cases ry
  obtain ⟨its, r1, p1, _⟩ := I.list (SqL.of ea)
  obtain ⟨its2, r2, p2, _⟩ := I.list (SqL.of eb)
  cases r2
  have l := r1.length
  cases xs with
  | nil =>
    cases r1
    exact (PySem.SeqAt.RcNeAt.lists (e := fun _ => true) p1.isList p2.isList rfl (by omega) (fun j h1 _ => absurd h1 (by simp))) _ _ _ _ ⟨.bl false, H, I, rfl, q⟩
  | cons x r =>
    refine (PySem.SeqAt.RcNeAt.lists_lengths p1.isList p2.isList ?_ (by omega)) _ _ _ _ ⟨.bl true, H, I, rfl, q⟩
    rw [List.size_toArray, ← l]
    simp
end Xt
set_option Elab.async false
set_option linter.all false
set_option maxRecDepth 100000
set_option maxHeartbeats 4000000
set_option pp.maxSteps 400
set_option pp.deepTerms false
namespace K44
open PySem PySem.Spec PyProof.Rows L2
open Xk Az W37
def top (i : Nat) : Stmt := PySem.Challenge.pw_takesworks_k44_titles_in_other_tongues.main.body.getD i (.Pass ⟨0, 0, 0, 0⟩)
abbrev sIsWhole : Stmt := top 3
abbrev sIsWithin : Stmt := top 4
abbrev sLeaves : Stmt := top 23
abbrev sSpansIn : Stmt := top 24
abbrev sSpanOf : Stmt := top 25
abbrev sSpansOf : Stmt := top 27
abbrev sLeavesWithin : Stmt := top 28
abbrev sIsAhead : Stmt := top 29
abbrev sBestOf : Stmt := top 30
abbrev sBestByFirst : Stmt := top 31
abbrev sMostInOrder : Stmt := top 32
abbrev sLeastHeight : Stmt := top 33
abbrev sHeights : Stmt := top 34
abbrev sShowsMost : Stmt := top 35
abbrev sHand : Stmt := top 44
abbrev sTake : Stmt := top 45
abbrev sPick : Stmt := top 46
abbrev sSigns : Stmt := top 47
abbrev sText : Stmt := top 48
abbrev sTongue : Stmt := top 49
abbrev sNames : Stmt := top 50
abbrev sTree : Stmt := top 51
abbrev sAll : Stmt := top 52
abbrev sTitles : Stmt := top 54
abbrev sOwn : Stmt := top 55
abbrev sRight : Stmt := top 56
abbrev sLaw : Stmt := top 57
theorem scIsWhole : FnScope ["thing"] ["thing"] (defScope sIsWhole) := ⟨rfl, rfl, rfl, by decide +kernel, rfl, by decide +kernel, by decide +kernel⟩
theorem scIsWithin : FnScope ["thing", "least", "most"] ["thing", "least", "most"] (defScope sIsWithin) := ⟨rfl, rfl, rfl, by decide +kernel, rfl, by decide +kernel, by decide +kernel⟩
theorem scLeaves : FnScope ["work", "name", "parts", "part", "leaf"] ["work"] (defScope sLeaves) := ⟨rfl, rfl, rfl, by decide +kernel, rfl, by decide +kernel, by decide +kernel⟩
theorem scSpansIn : FnScope ["work", "start", "name", "parts", "within", "end", "part", "rows"] ["work", "start"] (defScope sSpansIn) := ⟨rfl, rfl, rfl, by decide +kernel, rfl, by decide +kernel, by decide +kernel⟩
theorem scSpanOf : FnScope ["work", "name", "names", "known", "span"] ["work", "name", "names"] (defScope sSpanOf) := ⟨rfl, rfl, rfl, by decide +kernel, rfl, by decide +kernel, by decide +kernel⟩
theorem scSpansOf : FnScope ["work", "titles", "names", "title"] ["work", "titles", "names"] (defScope sSpansOf) := ⟨rfl, rfl, rfl, by decide +kernel, rfl, by decide +kernel, by decide +kernel⟩
theorem scLeavesWithin : FnScope ["span"] ["span"] (defScope sLeavesWithin) := ⟨rfl, rfl, rfl, by decide +kernel, rfl, by decide +kernel, by decide +kernel⟩
theorem scIsAhead : FnScope ["one", "other"] ["one", "other"] (defScope sIsAhead) := ⟨rfl, rfl, rfl, by decide +kernel, rfl, by decide +kernel, by decide +kernel⟩
theorem scBestOf : FnScope ["choices"] ["choices"] (defScope sBestOf) := ⟨rfl, rfl, rfl, by decide +kernel, rfl, by decide +kernel, by decide +kernel⟩
theorem scBestByFirst : FnScope ["spans", "best", "number", "span", "many", "rest", "later"] ["spans"] (defScope sBestByFirst) := ⟨rfl, rfl, rfl, by decide +kernel, rfl, by decide +kernel, by decide +kernel⟩
theorem scMostInOrder : FnScope ["work", "titles", "names", "spans", "many", "choice", "chosen", "lacks", "number", "leaf", "low", "high"] ["work", "titles", "names"] (defScope sMostInOrder) := ⟨rfl, rfl, rfl, by decide +kernel, rfl, by decide +kernel, by decide +kernel⟩
theorem scLeastHeight : FnScope ["spans", "known", "number", "span", "below", "at"] ["spans", "known", "number"] (defScope sLeastHeight) := ⟨rfl, rfl, rfl, by decide +kernel, rfl, by decide +kernel, by decide +kernel⟩
theorem scHeights : FnScope ["work", "titles", "names", "spans", "found", "number", "span"] ["work", "titles", "names"] (defScope sHeights) := ⟨rfl, rfl, rfl, by decide +kernel, rfl, by decide +kernel, by decide +kernel⟩
theorem scShowsMost : FnScope ["work", "titles", "many", "thing", "names", "spans", "height", "number"] ["work", "titles", "many", "thing", "names"] (defScope sShowsMost) := ⟨rfl, rfl, rfl, by decide +kernel, rfl, by decide +kernel, by decide +kernel⟩
theorem scHand : FnScope ["_law_script", "_law_k", "_law_cell", "_law_great"] ["_law_script", "_law_k"] (defScope sHand) := ⟨rfl, rfl, rfl, by decide +kernel, rfl, by decide +kernel, by decide +kernel⟩
theorem scTake : FnScope ["_law_hand_here", "_law_many", "_law_digit", "_law_turn", "_law_one", "_law_two", "_law_mixed", "_law_last"] ["_law_hand_here", "_law_many"] (defScope sTake) := ⟨rfl, rfl, rfl, by decide +kernel, rfl, by decide +kernel, by decide +kernel⟩
theorem scPick : FnScope ["_law_hand_here", "_law_some"] ["_law_hand_here", "_law_some"] (defScope sPick) := ⟨rfl, rfl, rfl, by decide +kernel, rfl, by decide +kernel, by decide +kernel⟩
theorem scSigns : FnScope [] [] (defScope sSigns) := ⟨rfl, rfl, rfl, by decide +kernel, rfl, by decide +kernel, by decide +kernel⟩
theorem scText : FnScope ["_law_hand_here", "_law_most", "_law_text_here", "_law_size", "_law_k", "_law_sign"] ["_law_hand_here", "_law_most"] (defScope sText) := ⟨rfl, rfl, rfl, by decide +kernel, rfl, by decide +kernel, by decide +kernel⟩
theorem scTongue : FnScope ["_law_hand_here", "_law_letters", "_law_k"] ["_law_hand_here"] (defScope sTongue) := ⟨rfl, rfl, rfl, by decide +kernel, rfl, by decide +kernel, by decide +kernel⟩
theorem scNames : FnScope ["_law_hand_here", "_law_many", "_law_stem", "_law_at", "_law_signs_here", "_law_found", "_law_tongues", "_law_k", "_law_sign"] ["_law_hand_here", "_law_many"] (defScope sNames) := ⟨rfl, rfl, rfl, by decide +kernel, rfl, by decide +kernel, by decide +kernel⟩
theorem scTree : FnScope ["_law_hand_here", "_law_deep", "_law_left", "_law_name", "_law_parts", "_law_k"] ["_law_hand_here", "_law_deep", "_law_left"] (defScope sTree) := ⟨rfl, rfl, rfl, by decide +kernel, rfl, by decide +kernel, by decide +kernel⟩
theorem scAll : FnScope ["_law_opus", "_law_found", "_law_part"] ["_law_opus"] (defScope sAll) := ⟨rfl, rfl, rfl, by decide +kernel, rfl, by decide +kernel, by decide +kernel⟩
theorem scTitles : FnScope ["_law_hand_here", "_law_several", "_law_others", "_law_most", "_law_found", "_law_at", "_law_k", "_law_way"] ["_law_hand_here", "_law_several", "_law_others", "_law_most"] (defScope sTitles) := ⟨rfl, rfl, rfl, by decide +kernel, rfl, by decide +kernel, by decide +kernel⟩
theorem scOwn : FnScope ["_law_opus", "_law_title", "_law_pairs", "_law_found", "_law_turn", "_law_one", "_law_other", "_law_name"] ["_law_opus", "_law_title", "_law_pairs"] (defScope sOwn) := ⟨rfl, rfl, rfl, by decide +kernel, rfl, by decide +kernel, by decide +kernel⟩
theorem scRight : FnScope ["_law_opus", "_law_heads", "_law_book", "_law_pairs", "_law_own_here", "_law_due", "_law_tops", "_law_truths", "_law_title"] ["_law_opus", "_law_heads", "_law_book", "_law_pairs"] (defScope sRight) := ⟨rfl, rfl, rfl, by decide +kernel, rfl, by decide +kernel, by decide +kernel⟩
theorem scLaw : FnScope ["_law_script", "_law_k", "_law_hand_here", "_law_several", "_law_opus", "_law_some", "_law_more", "_law_book", "_law_told", "_law_rows", "_law_turn", "_law_number", "_law_one", "_law_other", "_law_pairs", "_law_name", "_law_heads"] ["_law_script"] (defScope sLaw) := ⟨rfl, rfl, rfl, by decide +kernel, rfl, by decide +kernel, by decide +kernel⟩
/-! ## objects -/
/-- all that was tracked stands but for the hand -/
def But (h : Addr) (H H' : Hp) : Prop := ∀ b o, b ≠ h → H b = some o → H' b = some o
theorem But.refl (h : Addr) (H : Hp) : But h H H := fun _ _ _ e => e
theorem But.trans {h : Addr} {H H1 H2 : Hp} (p : But h H H1) (q : But h H1 H2) : But h H H2 := fun b o n e => q b o n (p b o n e)
theorem Same.but {H H' : Hp} (s : Same H H') (h : Addr) : But h H H' := fun b o _ e => s b o e
theorem But.seqT {K : PySem.W.Frag} {h : Addr} {H H' : Hp} (s : But h H H') {t : Addr} {xs : List V} (n : t ≠ h) (q : SqT K H t xs) : SqT K H' t xs := by
  rcases q with (q | ⟨o, q⟩) | q
  · exact .inl (.inl (s _ _ n q))
  · exact .inl (.inr ⟨o, s _ _ n q⟩)
  · exact .inr q
theorem But.seqL {K : PySem.W.Frag} {h : Addr} {H H' : Hp} (s : But h H H') {t : Addr} {xs : List V} (n : t ≠ h) (q : SqL K H t xs) : SqL K H' t xs := by
  rcases q with (q | ⟨o, q⟩) | q
  · exact .inl (.inl (s _ _ n q))
  · exact .inl (.inr ⟨o, s _ _ n q⟩)
  · exact .inr q
theorem Same.seqT {K : PySem.W.Frag} {H H' : Hp} (s : Same H H') {t : Addr} {xs : List V} (q : SqT K H t xs) : SqT K H' t xs := by
  rcases q with (q | ⟨o, q⟩) | q
  · exact .inl (.inl (s _ _ q))
  · exact .inl (.inr ⟨o, s _ _ q⟩)
  · exact .inr q
theorem same_upd {H : Hp} {p : Addr} {o : HO} (h : H p = none) : Same H (upd H p o) := fun b x e => by
  rw [upd_ne (ne_of_none e h)]
  exact e
theorem but_upd {H : Hp} {p : Addr} {o : HO} : But p H (upd H p o) := fun b x n e => by
  rw [upd_ne n]
  exact e
/-- the hand: what is left of the cell, what it is mixed of, how often it was asked -/
def Hand (n : Int) (H : Hp) (a : Addr) : Prop := ∃ g m c : Int, H a = some (.lst [.int g, .int m, .int c]) ∧ 0 ≤ g ∧ 0 ≤ m ∧ m < 2305843009213693951 ∧ 0 ≤ c ∧ c ≤ n
theorem Hand.mono {n n' : Int} {H : Hp} {a : Addr} (h : Hand n H a) (l : n ≤ n') : Hand n' H a := by
  obtain ⟨g, m, c, e, h1, h2, h3, h4, h5⟩ := h
  exact ⟨g, m, c, e, h1, h2, h3, h4, Int.le_trans h5 l⟩
theorem Hand.same {n : Int} {H H' : Hp} {a : Addr} (h : Hand n H a) (s : Same H H') : Hand n H' a := by
  obtain ⟨g, m, c, e, r⟩ := h
  exact ⟨g, m, c, s _ _ e, r⟩
theorem Hand.at_ {n : Int} {H : Hp} {a : Addr} (h : Hand n H a) : ∃ xs, H a = some (.lst xs) := by
  obtain ⟨g, m, c, e, r⟩ := h
  exact ⟨_, e⟩
theorem Hand.ne_tup {K : PySem.W.Frag} {n : Int} {H : Hp} {a t : Addr} {xs : List V} (h : Hand n H a) (e : H t = some (.tup xs)) : t ≠ a := by
  obtain ⟨ys, e2⟩ := h.at_
  exact ne_of e e2 (by intro z; cases z)
theorem But.free {h l : Addr} {H H' : Hp} (b : But h H H') (ne : l ≠ h) (e : H' l = none) : H l = none := by
  cases q : H l with
  | none => rfl
  | some o =>
    rw [b l o ne q] at e
    cases e
theorem Hand.fresh {n : Int} {H : Hp} {a l : Addr} (h : Hand n H a) (e : H l = none) : l ≠ a := by
  obtain ⟨xs, q⟩ := h.at_
  exact (ne_of_none q e).symm
theorem Hand.upd {n : Int} {H : Hp} {a p : Addr} {x : HO} (h : Hand n H a) (ne : a ≠ p) : Hand n (L2.upd H p x) a := by
  obtain ⟨g, m, c, e, r⟩ := h
  exact ⟨g, m, c, by rw [upd_ne ne]; exact e, r⟩
theorem off_all {h : Addr} {H : Hp} : L2.Same (del H h) H := fun b o e => by
  by_cases z : b = h
  · rw [z, del_same] at e
    cases e
  · rw [del_ne z] at e
    exact e
theorem off_but {h : Addr} {H H' : Hp} (s : But h H H') : L2.Same (del H h) (del H' h) := fun b o e => by
  by_cases z : b = h
  · rw [z, del_same] at e
    cases e
  · rw [del_ne z] at e
    rw [del_ne z]
    exact s b o z e
theorem off_new {h p : Addr} {H : Hp} {o : HO} (ne : p ≠ h) : del (upd H p o) h p = some o := by rw [del_ne ne, upd_same]
theorem off_at {h p : Addr} {H : Hp} {o : HO} (ne : p ≠ h) (e : H p = some o) : del H h p = some o := by rw [del_ne ne, e]
section
variable {X : Cx}
theorem cr_alt {f : Value} {r1 r2 : List V → Hp → VK → Prop} (h1 : CallR X f r1) (h2 : CallR X f r2) : CallR X f (fun xs H Q => r1 xs H Q ∨ r2 xs H Q) :=
  fun pins s σ H xs us Q I r h => h.elim (h1 pins s σ H xs us Q I r) (h2 pins s σ H xs us Q I r)
end
end K44
set_option Elab.async false
set_option linter.all false
set_option maxRecDepth 100000
set_option maxHeartbeats 4000000
set_option pp.maxSteps 400
set_option pp.deepTerms false
namespace K44
open PySem PySem.Spec PyProof.Rows L2
open Xk Az W37
section
variable {P : Program} {w : World} {K : PySem.W.Frag} {mg : Str → Option Value} {base : Heap}
/-- a def that may be called by its name -/
structure Ca (P : Program) (w : World) (K : PySem.W.Frag) (mg : Str → Option Value) (base : Heap) (k : Nat) (x : Str) (ps : List Str) (sp : Sp) : Prop where
  ex : ∃ (f : Addr) (fd : FuncData), FnOk P w K mg base CX0 k f fd ps sp ∧ mg x = some (.ref f) ∧ PySem.W.keepIn K (.ref f) = true ∧ Binds K fd ps []
/-- a def of the text, as the head finds it -/
structure Df (K : PySem.W.Frag) (mg : Str → Option Value) (x : Str) (ps : List Str) (st : Stmt) (f : Addr) (fd : FuncData) : Prop where
  fn : Fun K x x st f fd
  mgf : mg x = some (.ref f)
  bd : Binds K fd ps []
theorem Df.ca {k : Nat} {x : Str} {ps : List Str} {st : Stmt} {f : Addr} {fd : FuncData} {sp : Sp} (d : Df K mg x ps st f fd)
    (h : FnOk P w K mg base CX0 k f fd ps sp) : Ca P w K mg base k x ps sp := ⟨f, fd, h, d.mgf, d.fn.kp, d.bd⟩
section
variable {X : Cx} {k j : Nat} {x : Str} {ps : List Str} {sp : Sp} {p pos : Pos} {e : Expr} {es : List Expr} {t : TA}
theorem pe_ca (c : Ca X.prog X.w X.K X.mg X.base k x ps sp) (hr : Room j X.A) (hk : k ≤ j) (hg : Gl X x) (ha : PA X (e :: es) t) (hdb : (x == ("__debug__" : Str)) = false := by decide)
    (he : starEach (e :: es) X.env = (false, eval e X.env) :: starEach es X.env := by rfl) (hpl : (backTo pos (starEach es X.env)).any (·.1) = false := by rfl) :
    PE X (.Call (.Name x p) (e :: es) [] pos) (tCall sp [] E0 t) := by
  obtain ⟨f, fd, F, hm, kp, b⟩ := c.ex
  exact pe_call F (hr.mono hk) hg hm kp b .nil pass0 ha hdb he hpl
end
def small : Str := "abcdefghijklmnopqrstuvwxyz"
def signs : Str := "abcdefghijklmnopqrstuvwxyzABCDEFGHIJKLMNOPQRSTUVWXYZ0123456789 '-."
/-- what the top has left, besides the defs -/
structure Txt (mg : Str → Option Value) : Prop where
  isi : mg "isinstance" = none
  int : mg "int" = none
  bool : mg "bool" = none
  str : mg "str" = none
  tuple : mg "tuple" = none
  list : mg "list" = none
  len : mg "len" = none
  range : mg "range" = none
  max : mg "max" = none
  min : mg "min" = none
  abs : mg "abs" = none
  all : mg "all" = none
  any : mg "any" = none
  sorted : mg "sorted" = none
  set : mg "set" = none
  enumerate : mg "enumerate" = none
  reversed : mg "reversed" = none
  repr : mg "repr" = none
  dict : mg "dict" = none
abbrev far : Int := 1000000
def spHand (K : PySem.W.Frag) : Sp := fun vs H Q _ => ∃ (a : Addr) (k : Int) (ns : List Int), vs = [.ref a, .int k] ∧ 0 ≤ k ∧ SqL K H a (ns.map V.int) ∧
  ∀ p g m, H p = none → 0 ≤ g → 0 ≤ m → m < 2305843009213693951 → Q (.ref p) (upd H p (.lst [.int g, .int m, .int 0]))
def spTake : Sp := fun vs H Q _ => ∃ (h : Addr) (many n : Int), vs = [.ref h, .int many] ∧ 0 < many ∧ many < 10 ^ 30 ∧ Hand n H h ∧ n ≤ far ∧
  ∀ d H', 0 ≤ d → d < many → Hand (n + 1) H' h → But h H H' → Q (.int d) H'
def spPick : Sp := fun vs H Q _ => ∃ (h : Addr) (n : Int) (s : V), vs = [.ref h, s] ∧ Hand n H h ∧ n ≤ far ∧
  ((∃ (l : Addr) (xs : List V), s = .ref l ∧ H l = some (.lst xs) ∧ l ≠ h ∧ xs ≠ [] ∧ xs.length < 1000 ∧ ∀ v H', v ∈ xs → Hand (n + 1) H' h → But h H H' → Q v H') ∨
   (∃ x : Str, s = .str x ∧ 0 < x.length ∧ x.length < 1000 ∧ ∀ c H', c ∈ x.cps.toList → Hand (n + 1) H' h → But h H H' → Q (.str ⟨#[c]⟩) H'))
theorem wide30 {g many : Int} (m1 : 0 < many) (m2 : many < 10 ^ 30) : CDivW g many := by
  have h : (10 : Int) ^ 30 < 2 ^ 110 := by decide
  exact wide_div (b := 110) m1 (by omega) (by decide) (by decide)
theorem lt30 {n : Nat} (h : n < 1000) : (n : Int) < 10 ^ 30 := Int.lt_trans (Int.ofNat_lt.mpr h) (by decide)
theorem ok_hand {f : Addr} {fd : FuncData} (D : Df K mg "_law_hand" ["_law_script", "_law_k"] sHand f fd) (T : Txt mg) : FnOk P w K mg base CX0 1 f fd ["_law_script", "_law_k"] (spHand K) := by
  refine D.fn.ok scHand (fun vs H Q E h => ?_) (fun cdv A outer s H vs Q E hr h => ?_)
  · obtain ⟨a, k, ns, rfl, hk, hS, q⟩ := h
    rfl
  · obtain ⟨a, k, ns, rfl, hk, hS, q⟩ := h
    refine ⟨_, (C8.pss_cut (ps_set (i := 2) scHand.nd rfl (.inl rfl) (pe_ifExp (pt_cmpR op_lt (pv 1) (pe_callB call_len_seq (by rfl) T.len PySem.boot_len (pa_cons (pv 0) pa_nil)) (nomark _)) (pe_callB call_abs (by rfl) T.abs (by decide +kernel) (pa_cons (pe_ix ix_list (pv 0) (pv 1) (fun _ _ => rfl)) pa_nil)) pe_int))
      (C8.pss_cut (ps_set (i := 3) scHand.nd rfl (.inl rfl) (pe_ifExp (pt_cmpR op_ge (pv 2) (pe_op op_pow pe_int pe_int) (nomark _)) (pe_op op_mod (pv 2) (pe_op op_mulW (pe_op op_mulW (pe_op op_pow pe_int pe_int) (pe_op op_pow pe_int pe_int)) (pe_op op_pow pe_int pe_int))) pe_int))
      (pss_one (ps_ret (pe_lst (pa_cons (pv 3) (pa_cons (pe_op op_mod (pe_op op_add (pe_op op_add (pe_op op_mul (pe_op op_mod (pv 2) pe_int) pe_int) (pe_op op_mul pe_int (pv 1))) pe_int) pe_int) (pa_cons pe_int pa_nil)))))))), ?_⟩
    refine ⟨fun σ Hx => Hx = H ∧ ∃ c : Int, σ = [some (.ref a), some (.int k), some (.int c), none] ∧ 0 ≤ c, ?_, ?_⟩
    · refine ⟨_, rfl, _, rfl, a, _, rfl, .inl hS, k, _, rfl, rfl, _, rfl, ?_⟩
      refine ite2 (fun e => ?_) (fun e => ?_)
      · have hlt : k < ((ns.map V.int).length : Int) := of_decide_eq_true e
        rw [List.length_map] at hlt
        obtain ⟨j, rfl⟩ : ∃ j : Nat, k = (j : Int) := ⟨k.toNat, by omega⟩
        have hj : j < ns.length := by omega
        have hat : atI (ns.map V.int) ((j : Nat) : Int) = some (.int ns[j]) := atI_nat (by rw [List.getElem?_map, List.getElem?_eq_getElem hj]; rfl)
        exact ⟨_, rfl, _, rfl, a, _, _, _, rfl, rfl, hS, hat, _, rfl, rfl, _, rfl, by split <;> omega⟩
      · exact ⟨rfl, _, rfl, Int.le_refl _⟩
    rintro σ Hx ⟨rfl, c, rfl, c0⟩
    refine ⟨fun σ Hy => Hy = Hx ∧ ∃ g : Int, σ = [some (.ref a), some (.int k), some (.int c), some (.int g)] ∧ 0 ≤ g, ?_, ?_⟩
    · refine ⟨_, rfl, 10, 18, rfl, rfl, ⟨by decide, by decide, by decide⟩, c, _, rfl, rfl, _, rfl, ?_⟩
      refine ite2 (fun e => ?_) (fun e => ?_)
      · refine ⟨_, rfl, 10, 60, rfl, rfl, ⟨by decide, by decide, by decide⟩, 10, 60, rfl, rfl, ⟨by decide, by decide, by decide⟩, _, _, rfl, rfl, ?_, 10, 60, rfl, rfl, ⟨by decide, by decide, by decide⟩, _, _, rfl, rfl, ?_, c, _, rfl, rfl, ?_, ?_⟩
        · exact wide_mul (a := 300) (b := 300) (by decide +kernel) (by decide +kernel) (by decide) (by decide) (by decide)
        · exact wide_mul (a := 600) (b := 300) (by decide +kernel) (by decide +kernel) (by decide) (by decide) (by decide)
        · show (0 : Int) < 10 ^ (60 : Int).toNat * 10 ^ (60 : Int).toNat * 10 ^ (60 : Int).toNat
          decide +kernel
        · exact ⟨rfl, _, rfl, Int.emod_nonneg _ (by decide +kernel)⟩
      · exact ⟨rfl, _, rfl, Int.le_refl _⟩
    rintro σ Hy ⟨rfl, g, rfl, g0⟩
    refine ⟨_, rfl, _, rfl, c, 2305843009213693951, rfl, rfl, (by show (0 : Int) < 2305843009213693951; decide), _, 1000003, rfl, rfl, .inr (by decide), _, rfl, 7919, k, rfl, rfl, .inl (by decide), _, _, rfl, rfl, _, 11, rfl, rfl, _, 2305843009213693921, rfl, rfl, (by show (0 : Int) < 2305843009213693921; decide), (by show 3 ≤ sizeLine; decide), fun p np => ?_⟩
    exact q p _ _ np g0 (Int.emod_nonneg _ (by decide)) (Int.lt_trans (Int.emod_lt_of_pos _ (by decide)) (by decide))
theorem ok_take {f : Addr} {fd : FuncData} (D : Df K mg "_law_take" ["_law_hand_here", "_law_many"] sTake f fd)  : FnOk P w K mg base CX0 1 f fd ["_law_hand_here", "_law_many"] spTake := by
  refine D.fn.ok scTake (fun vs H Q E h => ?_) (fun cdv A outer s H vs Q E hr h => ?_)
  · obtain ⟨h, many, n, rfl, m1, m2, ⟨g, m, c, hh, g0, k0, k1, c0, c1⟩, hn, q⟩ := h
    rfl
  · obtain ⟨h, many, n, rfl, m1, m2, ⟨g, m, c, hh, g0, k0, k1, c0, c1⟩, hn, q⟩ := h
    refine ⟨_, (pss_cons (ps_if (pt_cmpR op_gt (pe_ix ix_list (pv 0) pe_int (fun _ _ => rfl)) pe_int (nomark _)) (pss_cons (ps_set (i := 2) scTake.nd rfl (.inl rfl) (pe_op op_mod (pe_ix ix_list (pv 0) pe_int (fun _ _ => rfl)) (pv 1)))
      (pss_cons (ps_asg (pe_op op_fdivW (pe_ix ix_list (pv 0) pe_int (fun _ _ => rfl)) (pv 1)) (pg_sub (pv 0) pe_int set_list))
      (pss_one (ps_ret (pv 2))))) pss_nil)
      (pss_cons (ps_set (i := 3) scTake.nd rfl (.inl rfl) (pe_op op_add (pe_ix ix_list (pv 0) pe_int (fun _ _ => rfl)) pe_int))
      (pss_cons (ps_asg (pv 3) (pg_sub (pv 0) pe_int set_list))
      (pss_cons (ps_set (i := 4) scTake.nd rfl (.inl rfl) (pe_op op_add (pe_ix ix_list (pv 0) pe_int (fun _ _ => rfl)) (pe_op op_mul pe_int (pv 3))))
      (pss_cons (ps_set (i := 5) scTake.nd rfl (.inl rfl) (pe_op op_add (pe_op op_add (pe_op op_mod (pe_ix ix_list (pv 0) pe_int (fun _ _ => rfl)) pe_int) (pe_op op_mul pe_int (pv 3))) pe_int))
      (pss_cons (ps_set (i := 6) scTake.nd rfl (.inl rfl) (pe_op op_mod (pe_op op_mul (pv 4) (pv 5)) pe_int))
      (pss_cons (ps_set (i := 7) scTake.nd rfl (.inl rfl) (pe_op op_add (pe_op op_add (pe_op op_mod (pv 6) pe_int) (pe_op op_mul pe_int (pv 3))) pe_int))
      (pss_one (ps_ret (pe_op op_mod (pe_op op_fdiv (pe_op op_mod (pe_op op_mul (pe_op op_add (pv 6) pe_int) (pv 7)) pe_int) pe_int) (pv 1))))))))))), ?_⟩
    have far' : n ≤ 1000000 := hn
    refine ⟨_, rfl, h, _, 0, _, rfl, rfl, SqL.of hh, atI_nat (j := 0) rfl, g, 0, rfl, rfl, _, rfl, ite2 (fun e => ?_) (fun e => ?_)⟩
    · refine ⟨_, rfl, h, _, 0, _, rfl, rfl, SqL.of hh, atI_nat (j := 0) rfl, _, rfl, g, many, rfl, rfl, m1, ?_⟩
      refine ⟨_, rfl, h, _, 0, _, rfl, rfl, SqL.of hh, atI_nat (j := 0) rfl, _, rfl, g, many, rfl, rfl, wide30 m1 m2, _, rfl, h, _, 0, 0, rfl, rfl, hh, rfl, ?_⟩
      refine ⟨_, rfl, ?_⟩
      exact q _ _ (Int.emod_nonneg _ (by omega)) (Int.emod_lt_of_pos _ m1) ⟨g / many, m, c, upd_same, Int.ediv_nonneg g0 (by omega), k0, k1, c0, by omega⟩ but_upd
    · refine ⟨_, rfl, h, _, 2, _, rfl, rfl, SqL.of hh, atI_nat (j := 2) rfl, c, 1, rfl, rfl, _, rfl, _, rfl, h, _, 2, 2, rfl, rfl, hh, rfl, ?_⟩
      have h2 : (upd H h (.lst [.int g, .int m, .int (c + 1)])) h = some (.lst [.int g, .int m, .int (c + 1)]) := upd_same
      have s2 := SqL.of (K := K) h2
      refine ⟨_, rfl, h, _, 1, _, rfl, rfl, s2, atI_nat (j := 1) rfl, _, rfl, 104729, c + 1, rfl, rfl, .inl (by decide), m, _, rfl, rfl, ?_⟩
      refine ⟨_, rfl, h, _, 1, _, rfl, rfl, s2, atI_nat (j := 1) rfl, m, 7919, rfl, rfl, (by show (0 : Int) < 7919; decide), _, rfl, 15485863, c + 1, rfl, rfl, .inl (by decide), _, _, rfl, rfl, _, 17, rfl, rfl, ?_⟩
      have e64 : (2 : Int) ^ 64 = 18446744073709551616 := by decide
      refine ⟨_, rfl, _, rfl, _, _, rfl, rfl, .inl (by rw [e64]; omega), _, 2305843009213693951, rfl, rfl, (by show (0 : Int) < 2305843009213693951; decide), ?_⟩
      generalize (m + 104729 * (c + 1)) * (m % 7919 + 15485863 * (c + 1) + 17) = z
      have z0 : 0 ≤ z % 2305843009213693951 := Int.emod_nonneg _ (by decide)
      have z1 : z % 2305843009213693951 < 2305843009213693951 := Int.emod_lt_of_pos _ (by decide)
      refine ⟨_, rfl, _, 1000003, rfl, rfl, (by show (0 : Int) < 1000003; decide), _, rfl, 6700417, c + 1, rfl, rfl, .inl (by decide), _, _, rfl, rfl, _, 5, rfl, rfl, ?_⟩
      refine ⟨_, rfl, _, 13, rfl, rfl, _, rfl, _, _, rfl, rfl, .inl (by rw [e64]; omega), _, 2305843009213693907, rfl, rfl, (by show (0 : Int) < 2305843009213693907; decide), _, 64, rfl, rfl, ⟨by decide, by decide⟩, _, rfl, _, many, rfl, rfl, m1, ?_⟩
      exact q _ _ (Int.emod_nonneg _ (by omega)) (Int.emod_lt_of_pos _ m1) ⟨g, m, c + 1, h2, g0, k0, k1, by omega, by omega⟩ but_upd
theorem ok_pick {f : Addr} {fd : FuncData} (D : Df K mg "_law_pick" ["_law_hand_here", "_law_some"] sPick f fd) (T : Txt mg) (cT : Ca P w K mg base 1 "_law_take" ["_law_hand_here", "_law_many"] spTake) : FnOk P w K mg base CX0 2 f fd ["_law_hand_here", "_law_some"] spPick := by
  refine D.fn.ok scPick (fun vs H Q E h => ?_) (fun cdv A outer s H vs Q E hr h => ?_)
  · obtain ⟨h, n, s, rfl, hh, hn, q⟩ := h
    rfl
  · obtain ⟨h, n, s, rfl, hh, hn, q⟩ := h
    refine ⟨_, (pss_one (ps_ret (pe_ix ix_seq (pv 1) (pe_ca cT hr (by decide) (by rfl) (pa_cons (pv 0) (pa_cons (pe_callB (cr_alt call_len_seq call_len_str) (by rfl) T.len PySem.boot_len (pa_cons (pv 1) pa_nil)) pa_nil))) (fun _ _ => rfl)))), ?_⟩
    refine ⟨_, rfl, _, rfl, _, rfl, ?_⟩
    rcases q with ⟨l, xs, rfl, hl, nl, ne, few, q⟩ | ⟨x, rfl, pos, few, q⟩
    · have pos : 0 < xs.length := List.length_pos_iff.mpr ne
      refine .inl ⟨l, xs, rfl, .inl (SqL.of hl), h, (xs.length : Int), n, rfl, by omega, lt30 few, hh, hn, fun d H' d0 d1 hh' bt => ?_⟩
      obtain ⟨j, rfl⟩ : ∃ j : Nat, d = (j : Int) := ⟨d.toNat, by omega⟩
      have hj : j < xs.length := by omega
      refine .inl ⟨l, xs, _, xs[j], rfl, rfl, SqL.of (bt _ _ nl hl), atI_nat (List.getElem?_eq_getElem hj), ?_⟩
      exact q _ H' (List.getElem_mem hj) hh' bt
    · have sz : x.length ≤ sizeLine := Nat.le_trans (show x.length ≤ 1000 by omega) (by decide)
      refine .inr ⟨x, rfl, sz, h, (x.length : Int), n, rfl, by omega, lt30 few, hh, hn, fun d H' d0 d1 hh' bt => ?_⟩
      obtain ⟨j, rfl⟩ : ∃ j : Nat, d = (j : Int) := ⟨d.toNat, by omega⟩
      have hj : j < x.cps.toList.length := by
        have : x.length = x.cps.toList.length := by rw [Array.length_toList]; rfl
        omega
      refine .inr (.inr ⟨x, _, x.cps.toList[j], rfl, rfl, sz, atI_nat (List.getElem?_eq_getElem hj), ?_⟩)
      exact q _ H' (List.getElem_mem hj) hh' bt
end
end K44
set_option Elab.async false
set_option linter.all false
set_option maxRecDepth 100000
set_option maxHeartbeats 4000000
set_option pp.maxSteps 400
set_option pp.deepTerms false
namespace K44
open PySem PySem.Spec PyProof.Rows L2
open Xk Az W37
section
variable {P : Program} {w : World} {K : PySem.W.Frag} {mg : Str → Option Value} {base : Heap}
def lawSigns : Str := "abcdefghijklmnopqrstuvwxyzABCDEFGHIJKLMNOPQRSTUVWXYZ0123456789'-."
theorem lawSigns7 : ∀ c ∈ lawSigns.cps.toList, c < 128 := by decide +kernel
theorem lawSigns_ok : ∀ c ∈ lawSigns.cps.toList, c ∈ N44.signs.cps.toList ∧ c ≠ 32 := by decide +kernel
theorem small_eq : small = N44.small := rfl
theorem small7 : ∀ c ∈ small.cps.toList, c < 128 := by decide +kernel
/-- signs that are few -/
def As (x : Str) : Prop := ∀ c ∈ x.cps.toList, c < 128
theorem As.app {x y : Str} (h1 : As x) (h2 : As y) : As (x ++ y) := fun c hc => by
  rw [Str.cps_append, Array.toList_append, List.mem_append] at hc
  exact hc.elim (h1 c) (h2 c)
theorem as0 : As "" := fun c hc => by
  have e : (("" : Str)).cps.toList = [] := rfl
  rw [e] at hc
  cases hc
theorem as1 {c : Nat} (h : c < 128) : As ⟨#[c]⟩ := fun d hd => by
  have : d = c := by simpa using hd
  rw [this]; exact h
theorem lt30i {i : Int} (h : i < 1000000) : i < 10 ^ 30 := Int.lt_trans h (by decide)
def spSigns : Sp := fun vs H Q _ => vs = [] ∧ Q (.str lawSigns) H
section
variable {X : Cx} {k j : Nat} {x : Str} {ps : List Str} {sp : Sp} {p pos : Pos}
theorem pe_ca0 (c : Ca X.prog X.w X.K X.mg X.base k x ps sp) (hr : Room j X.A) (hk : k ≤ j) (hg : Gl X x) (hdb : (x == ("__debug__" : Str)) = false := by decide) :
    PE X (.Call (.Name x p) [] [] pos) (tCall sp [] E0 tNil) := by
  obtain ⟨f, fd, F, hm, kp, b⟩ := c.ex
  exact pe_call0 F (hr.mono hk) hg hm kp b .nil pass0 hdb
end
def spText : Sp := fun vs H Q _ => ∃ (h : Addr) (n most : Int), vs = [.ref h, .int most] ∧ 1 ≤ most ∧ most ≤ 40 ∧ Hand n H h ∧ n + 200 ≤ far ∧
  ∀ (x : Str) H', 1 ≤ (x.length : Int) → (x.length : Int) ≤ most → N44.Clean x.cps.toList → Hand (n + 100) H' h → But h H H' → Q (.str x) H'
def spTongue : Sp := fun vs H Q _ => ∃ (h : Addr) (n : Int), vs = [.ref h] ∧ Hand n H h ∧ n + 100 ≤ far ∧
  ∀ (x : Str) H', 2 ≤ x.length → x.length ≤ 3 → N44.letts x → Hand (n + 10) H' h → But h H H' → Q (.str x) H'
theorem len_cps (x : Str) : x.length = x.cps.toList.length := by
  rw [Array.length_toList]
  rfl
theorem at_last {l : List Nat} (h : l ≠ []) : atI l (-1) = l.getLast? := by
  have p : 0 < l.length := List.length_pos_iff.mpr h
  unfold atI ixN
  rw [if_neg (by omega), if_pos (by omega)]
  rw [List.getLast?_eq_getElem?]
  simp only [Option.bind_some]
  congr 1
  omega
theorem ok_signs {f : Addr} {fd : FuncData} (D : Df K mg "_law_signs" [] sSigns f fd)  : FnOk P w K mg base CX0 1 f fd [] spSigns := by
  refine D.fn.ok scSigns (fun vs H Q E h => ?_) (fun cdv A outer s H vs Q E hr h => ?_)
  · obtain ⟨rfl, q⟩ := h
    rfl
  · obtain ⟨rfl, q⟩ := h
    refine ⟨_, (pss_one (ps_ret pe_str)), ?_⟩
    exact q
theorem ok_text {f : Addr} {fd : FuncData} (D : Df K mg "_law_text" ["_law_hand_here", "_law_most"] sText f fd) (T : Txt mg) (cT : Ca P w K mg base 1 "_law_take" ["_law_hand_here", "_law_many"] spTake) (cP : Ca P w K mg base 2 "_law_pick" ["_law_hand_here", "_law_some"] spPick) (cS : Ca P w K mg base 1 "_law_signs" [] spSigns) : FnOk P w K mg base CX0 3 f fd ["_law_hand_here", "_law_most"] spText := by
  refine D.fn.ok scText (fun vs H Q E h => ?_) (fun cdv A outer s H vs Q E hr h => ?_)
  · obtain ⟨h, n, most, rfl, m0, m1, hd, hn, q⟩ := h
    rfl
  · obtain ⟨h, n, most, rfl, m0, m1, hd, hn, q⟩ := h
    refine ⟨_, (pss_cons (ps_par (i := 2) (j := 3) (by rfl) scText.nd rfl rfl (by decide) rfl rfl (pa_cons pe_str (pa_cons (pe_op op_add pe_int (pe_ca cT hr (by decide) (by rfl) (pa_cons (pv 0) (pa_cons (pv 1) pa_nil)))) pa_nil)) (by rfl))
      (pss_cons (ps_for PassesOwn.never rfl (pi_range1 (by rfl) T.range (pa_cons (pv 3) pa_nil)) (pg_name (i := 4) scText.nd rfl (.inl rfl)) (pss_cons (ps_set (i := 5) scText.nd rfl (.inl rfl) (pe_ca cP hr (by decide) (by rfl) (pa_cons (pv 0) (pa_cons (pe_ca0 cS hr (by decide) (by rfl)) pa_nil))))
      (C8.pss_cut (ps_if (PW.pt (pw_and (pt_chain op_lt op_lt pe_int (pv 4) (pe_op op_sub (pv 3) pe_int)) (pw_and (pt_cmpR op_ne (pe_ix ix_str (pv 2) (pe_un un_neg pe_int) (fun _ _ => rfl)) pe_str (nomark _)) (pw_and1 (pt_cmpR op_eq (pe_ca cT hr (by decide) (by rfl) (pa_cons (pv 0) (pa_cons pe_int pa_nil))) pe_int (nomark _)))))) (pss_one (ps_set (i := 5) scText.nd rfl (.inl rfl) pe_str)) pss_nil)
      (pss_one (ps_set (i := 2) scText.nd rfl (.inl rfl) (pe_op op_add_str (pv 2) (pv 5)))))))
      (pss_one (ps_ret (pv 2))))), ?_⟩
    have fr : n + 200 ≤ 1000000 := hn
    have l65 : lawSigns.length = 65 := by decide +kernel
    refine ⟨_, rfl, _, rfl, h, most, n, rfl, by omega, lt30i (by omega), hd, by show n ≤ 1000000; omega, fun d H1 d0 d1 h1 b1 => ?_⟩
    refine ⟨_, _, rfl, rfl, _, _, rfl, ?_⟩
    refine ⟨_, rfl, 1 + d, rfl, by omega, by omega, for_range (lo := 0) (n := (1 + d).toNat) (fun k σ Hi => ∃ (x : Str) (c4 c5 : Option V), σ = [some (.ref h), some (.int most), some (.str x), some (.int (1 + d)), c4, c5] ∧ x.length = k ∧ (N44.Half x.cps.toList ∧ (x.cps.toList.getLast? = some 32 → (k : Int) < 1 + d)) ∧ Hand (n + 1 + 2 * k) Hi h ∧ But h H Hi) ?_ ?_ ?_⟩
    · exact ⟨"", none, none, rfl, rfl, ⟨N44.half_nil, fun z => by cases z⟩, h1.mono (by omega), b1⟩
    · rintro k σ Hi hk ⟨x, c4, c5, rfl, lx, ax, hdi, bi⟩
      have km : (k : Int) < 1 + d := by omega
      have kb : n + 1 + 2 * (k : Int) + 2 ≤ 1000000 := by omega
      refine ⟨_, rfl, rfl, h, n + 1 + 2 * k, _, rfl, hdi, by show n + 1 + 2 * (k : Int) ≤ 1000000; omega, .inr ⟨lawSigns, rfl, by rw [l65]; decide, by rw [l65]; decide, fun c H2 mc h2 b2 => ?_⟩⟩
      have sx : x.length ≤ 100 := by omega
      have fit : x.length + 1 ≤ sizeLine := Nat.le_trans (show x.length + 1 ≤ 200 by omega) (by decide)
      have nx : ∀ (c' : Nat) (Hx : Hp), (c' ∈ N44.signs.cps.toList ∧ (c' = 32 → x.cps.toList ≠ [] ∧ x.cps.toList.getLast? ≠ some 32 ∧ ((k + 1 : Nat) : Int) < 1 + d)) → But h H Hx → Hand (n + 1 + 2 * ((k + 1 : Nat) : Int)) Hx h → ∀ c4 c5 : Option V, ∃ (x' : Str) (c4' c5' : Option V), [some (V.ref h), some (.int most), some (.str (x ++ ⟨#[c']⟩)), some (.int (1 + d)), c4, c5] = [some (V.ref h), some (.int most), some (.str x'), some (.int (1 + d)), c4', c5'] ∧ x'.length = k + 1 ∧ (N44.Half x'.cps.toList ∧ (x'.cps.toList.getLast? = some 32 → ((k + 1 : Nat) : Int) < 1 + d)) ∧ Hand (n + 1 + 2 * ((k + 1 : Nat) : Int)) Hx h ∧ But h H Hx := fun c' Hx m1 bx hx c4 c5 => by
        refine ⟨x ++ ⟨#[c']⟩, c4, c5, rfl, ?_, ?_, hx, bx⟩
        rotate_left
        · have e1 : (x ++ (⟨#[c']⟩ : Str)).cps.toList = x.cps.toList ++ [c'] := by rw [Str.cps_append, Array.toList_append]
          rw [e1]
          refine ⟨ax.1.snoc m1.1 fun z => ⟨(m1.2 z).1, (m1.2 z).2.1⟩, fun z => ?_⟩
          rw [List.getLast?_concat] at z
          exact (m1.2 (Option.some.inj z)).2.2
        rw [strLen_append, lx]; rfl
      have mc' : c ∈ N44.signs.cps.toList ∧ (c = 32 → x.cps.toList ≠ [] ∧ x.cps.toList.getLast? ≠ some 32 ∧ ((k + 1 : Nat) : Int) < 1 + d) := ⟨(lawSigns_ok c mc).1, fun z => absurd z (lawSigns_ok c mc).2⟩
      have h2' := h2.mono (n' := n + 1 + 2 * (k : Int) + 1) (by omega)
      have b2' := bi.trans b2
      refine ⟨fun σ Hx => ∃ c' : Nat, σ = [some (V.ref h), some (.int most), some (.str x), some (.int (1 + d)), some (.int (0 + (k : Int))), some (.str ⟨#[c']⟩)] ∧ (c' ∈ N44.signs.cps.toList ∧ (c' = 32 → x.cps.toList ≠ [] ∧ x.cps.toList.getLast? ≠ some 32 ∧ ((k + 1 : Nat) : Int) < 1 + d)) ∧ Hand (n + 1 + 2 * ((k + 1 : Nat) : Int)) Hx h ∧ But h H Hx, ?_, ?_⟩
      · refine ⟨_, rfl, _, _, rfl, rfl, _, rfl, ite2 (fun e1 => ?_) (fun e1 => ?_)⟩
        · refine ⟨_, rfl, _, 1, rfl, rfl, _, _, rfl, rfl, _, rfl, ite2 (fun e2 => ?_) (fun e2 => ?_)⟩
          · have k0 : (0 : Int) < 0 + (k : Int) := of_decide_eq_true e1
            have xn : x.cps.toList ≠ [] := fun z => by
              have : x.length = 0 := by rw [len_cps, z]; rfl
              omega
            obtain ⟨dd, ed⟩ : ∃ d, x.cps.toList.getLast? = some d := by
              cases z : x.cps.toList.getLast? with
              | none => exact absurd (List.getLast?_eq_none_iff.mp z) xn
              | some d => exact ⟨d, rfl⟩
            refine ⟨_, rfl, 1, rfl, x, -1, dd, rfl, rfl, Nat.le_trans (Nat.le_succ _) fit, (at_last xn).trans ed, rfl, _, rfl, ite2 (fun e3 => ?_) (fun e3 => ?_)⟩
            · refine ⟨_, rfl, h, 6, n + 1 + 2 * k + 1, rfl, by decide, by decide, h2', by show n + 1 + 2 * (k : Int) + 1 ≤ 1000000; omega, fun d3 H3 e0 e1 h3 b3 => ⟨rfl, _, rfl, ite2 (fun e4 => ?_) (fun e4 => ?_)⟩⟩
              · refine ⟨32, rfl, ⟨by decide +kernel, fun _ => ⟨xn, fun z => ?_, ?_⟩⟩, h3.mono (by omega), b2'.trans b3⟩
                · rw [ed] at z
                  cases z
                  exact absurd e3 (by decide +kernel)
                · have k2 : (0 : Int) + (k : Int) < 1 + d - 1 := of_decide_eq_true e2
                  omega
              · exact ⟨c, rfl, mc', h3.mono (by omega), b2'.trans b3⟩
            · exact ⟨c, rfl, mc', h2'.mono (by omega), b2'⟩
          · exact ⟨c, rfl, mc', h2'.mono (by omega), b2'⟩
        · exact ⟨_, rfl, iteF ⟨c, rfl, mc', h2'.mono (by omega), b2'⟩⟩
      · rintro σ Hx ⟨c', rfl, m1, hx, bx⟩
        exact ⟨_, rfl, _, rfl, x, ⟨#[c']⟩, rfl, rfl, fit, nx c' Hx m1 bx hx _ _⟩
    rintro σ He ⟨x, c4, c5, rfl, lx, ax, hde, be⟩
    have cl : N44.Clean x.cps.toList := ⟨ax.1, fun z => by have h1 := ax.2 z; have h2 : (((1 + d).toNat : Nat) : Int) < 1 + d := h1; omega⟩
    have lx' : (x.length : Int) = 1 + d := by
      have : x.length = (1 + d).toNat := lx
      omega
    refine ⟨_, rfl, q x He (by omega) (by omega) cl (hde.mono ?_) be⟩
    show n + 1 + 2 * (((1 + d).toNat : Nat) : Int) ≤ n + 100
    omega
end
end K44
set_option Elab.async false
set_option linter.all false
set_option maxRecDepth 100000
set_option maxHeartbeats 4000000
set_option pp.maxSteps 400
set_option pp.deepTerms false
namespace K44
open PySem PySem.Spec PyProof.Rows L2
open Xk Az W37
section
variable {P : Program} {w : World} {K : PySem.W.Frag} {mg : Str → Option Value} {base : Heap}
theorem join_cps' : ∀ ys : List Str, (Str.join "" ys).cps.toList = (ys.map fun y => y.cps.toList).flatten
  | [] => rfl
  | [x] => by simp [Str.join]
  | x :: z :: r => by
    show (x ++ "" ++ Str.join "" (z :: r)).cps.toList = _
    rw [Str.cps_append, Array.toList_append, Str.cps_append, Array.toList_append, join_cps' (z :: r)]
    have e0 : (("" : Str)).cps.toList = [] := rfl
    rw [e0, List.append_nil]
    rfl
theorem join_cps (ys : List Str) : (Txt.join "" ys).cps.toList = (ys.map fun y => y.cps.toList).flatten := by
  rw [TL.join_eq]
  exact join_cps' ys
theorem join_len (ys : List Str) : (Txt.join "" ys).length = (ys.map (·.length)).sum := by
  rw [len_cps, join_cps, List.length_flatten, List.map_map]
  congr 1
theorem ones_sum : ∀ ys : List Str, (∀ y ∈ ys, y.length = 1) → (ys.map (·.length)).sum = ys.length
  | [], _ => rfl
  | y :: r, h => by
    rw [List.map_cons, List.sum_cons, h y List.mem_cons_self, ones_sum r (fun z hz => h z (List.mem_cons_of_mem _ hz)), List.length_cons]
    omega
section
variable {X : Cx}
theorem vals_map {α : Type} (g : α → V) (R : α → Value → Prop) (hR : ∀ a v, R a v → RelV (g a) v) : ∀ (as : List α) (us : List Value), as.length = us.length → (∀ (i : Nat) (a : α) (u : Value), as[i]? = some a → us[i]? = some u → R a u) → Vals (as.map g) us
  | [], [], _, _ => .nil
  | a :: as, u :: us, hl, h => .cons (hR a u (h 0 a u rfl rfl)) (vals_map g R hR as us (by simpa using hl) fun i b v e1 e2 => h (i + 1) b v (by simpa using e1) (by simpa using e2))
  | [], _ :: _, hl, _ => by simp at hl
  | _ :: _, [], hl, _ => by simp at hl
def sg1 (c : Nat) : V := .str ⟨#[c]⟩
theorem cr_listS (hc : X.calm = true) : CallR X (.type "list") (fun xs H Q => ∃ x : Str, xs = [.str x] ∧ x.length ≤ sizeLine ∧ ∀ l, H l = none → Q (.ref l) (upd H l (.lst (x.cps.toList.map sg1)))) := by
  intro pins s σ H xs us Q I r h
  obtain ⟨x, rfl, hz, q⟩ := h
  obtain ⟨u, rfl, rx⟩ := vals1 r
  obtain ⟨t, rfl⟩ := rx
  refine call_list_str (I.ok.hd hc) x t (fun h' tk acc c kp e it => ?_) hz
  have v : Vals (x.cps.toList.map sg1) acc.toList := by
    refine vals_map sg1 (fun c u => ∃ t, u = Value.str ⟨#[c]⟩ t) (fun a v ⟨t, e⟩ => ⟨t, e⟩) _ _ (by rw [Array.length_toList, Array.length_toList, it.1]) fun i a u e1 e2 => ?_
    obtain ⟨c', t', q1, q2⟩ := it.2 i u (by rw [← Array.getElem?_toList]; exact e2)
    rw [← Array.getElem?_toList, e1] at q1
    exact ⟨t', by rw [Option.some.inj q1]; exact q2⟩
  have hl : (x.cps.toList.map sg1).length ≤ sizeLine := by rw [List.length_map, Array.length_toList]; exact hz
  exact ⟨.ref s.heap.objs.size, _, I.laid (t' := tk) kp (Nat.le_refl _) (show ObjOk X.prog X.w _ h' _ (.lst (x.cps.toList.map sg1)) from ⟨hl, acc.toList, c, v, by simpa using e⟩), rfl, q _ (I.hok.fresh (Nat.le_refl _))⟩
end
theorem ins_cps {st : Str} {k c : Nat} (h : k ≤ st.cps.toList.length) : (cutS st none (some (k : Int)) ++ ⟨#[c]⟩ ++ cutS st (some (k : Int)) none).cps.toList = st.cps.toList.take k ++ c :: st.cps.toList.drop k := by
  rw [len_cps st |>.symm] at h
  rw [Str.cps_append, Array.toList_append, Str.cps_append, Array.toList_append]
  have e1 : HT.sIx st.length 0 (some (k : Int)) = k := by rw [HT.sIx_nat]; omega
  have e2 : HT.sIx st.length st.length (some (k : Int)) = k := by rw [HT.sIx_nat]; omega
  have e3 : HT.sIx st.length 0 none = 0 := rfl
  have e4 : HT.sIx st.length st.length none = st.length := rfl
  unfold cutS
  rw [e1, e2, e3, e4]
  simp only [List.drop_zero, Nat.sub_zero, List.append_assoc, List.singleton_append]
  congr 2
  rw [List.take_of_length_le (by rw [List.length_drop, ← len_cps]; omega)]
theorem ins_len {st : Str} {k c : Nat} (h : k ≤ st.cps.toList.length) : (cutS st none (some (k : Int))).length + (cutS st (some (k : Int)) none).length ≤ st.length ∧ (cutS st none (some (k : Int))).length ≤ st.length ∧ (cutS st none (some (k : Int)) ++ ⟨#[c]⟩ ++ cutS st (some (k : Int)) none).length = st.length + 1 := by
  have e := congrArg List.length (ins_cps (c := c) h)
  have l1 : (cutS st none (some (k : Int)) ++ ⟨#[c]⟩ ++ cutS st (some (k : Int)) none).length = st.length + 1 := by
    rw [len_cps, e, List.length_append, List.length_cons, List.length_take, List.length_drop, len_cps st]
    omega
  rw [strLen_append, strLen_append] at l1
  have o1 : (⟨#[c]⟩ : Str).length = 1 := rfl
  rw [strLen_append, strLen_append]
  omega
theorem erase_map {α β : Type} (f : α → β) : ∀ (l : List α) (j : Nat), (l.map f).eraseIdx j = (l.eraseIdx j).map f
  | [], _ => rfl
  | _ :: _, 0 => rfl
  | a :: r, j + 1 => by
    show f a :: (r.map f).eraseIdx j = f a :: (r.eraseIdx j).map f
    rw [erase_map f r j]
theorem perm_erase {α : Type} : ∀ (l : List α) (j : Nat) (h : j < l.length), l.Perm (l[j] :: l.eraseIdx j)
  | a :: r, 0, _ => List.Perm.refl _
  | a :: r, j + 1, h => by
    have hj : j < r.length := by simpa using h
    have ih := perm_erase r j hj
    show (a :: r).Perm (r[j] :: a :: r.eraseIdx j)
    exact (List.Perm.cons a ih).trans (List.Perm.swap _ _ _)
def insT (st : Str) (k c : Nat) : Str := cutS st none (some (k : Int)) ++ ⟨#[c]⟩ ++ cutS st (some (k : Int)) none
theorem insT_inj {st : Str} {k c d : Nat} (h : k ≤ st.cps.toList.length) (e : insT st k c = insT st k d) : c = d := by
  have q := congrArg (fun x : Str => x.cps.toList) e
  simp only [insT] at q
  rw [ins_cps h, ins_cps h] at q
  have := List.append_cancel_left q
  injection this
theorem insT_ok {st : Str} {k c : Nat} (h : k ≤ st.cps.toList.length) (a : N44.Clean st.cps.toList) (hc : c ∈ N44.signs.cps.toList ∧ c ≠ 32) : N44.Clean (insT st k c).cps.toList := by
  unfold insT
  rw [ins_cps h]
  exact a.ins h hc.1 hc.2
/-- a name whose texts are short -/
abbrev Gn' (m : Nm) : Prop := N44.Gd m
def spNames : Sp := fun vs H Q _ => ∃ (h : Addr) (n many : Int), vs = [.ref h, .int many] ∧ 0 ≤ many ∧ many ≤ 60 ∧ Hand n H h ∧ n + 2000 ≤ far ∧
  ∀ (L : Addr) (xs : List V) (ns : List Nm) H', H' L = some (.lst xs) → L ≠ h → H L = none → NmL H' xs ns → (ns.length : Int) = many → (ns.map (·.2)).Nodup → (∀ m ∈ ns, Gn' m) → Hand (n + 400) H' h → But h H H' → Q (.ref L) H'
theorem ok_tongue {f : Addr} {fd : FuncData} (D : Df K mg "_law_tongue" ["_law_hand_here"] sTongue f fd) (T : Txt mg) (cT : Ca P w K mg base 1 "_law_take" ["_law_hand_here", "_law_many"] spTake) (cP : Ca P w K mg base 2 "_law_pick" ["_law_hand_here", "_law_some"] spPick) : FnOk P w K mg base CX0 3 f fd ["_law_hand_here"] spTongue := by
  refine D.fn.ok scTongue (fun vs H Q E h => ?_) (fun cdv A outer s H vs Q E hr h => ?_)
  · obtain ⟨h, n, rfl, hd, hn, q⟩ := h
    rfl
  · obtain ⟨h, n, rfl, hd, hn, q⟩ := h
    refine ⟨_, (pss_cons (ps_set (i := 1) scTongue.nd rfl (.inr rfl) pe_str)
      (pss_one (ps_ret (pe_m1 F.slot_str_join F.type_str_join mt_join pe_str (pe_lc (own := [("_law_k", 2)]) (g := gName 2) (tt := tYes) (by rfl) scTongue.nd (pi_range1 (by rfl) T.range (pa_cons (pe_op op_add pe_int (pe_ca cT hr (by decide) (by rfl) (pa_cons (pv 0) (pa_cons pe_int pa_nil)))) pa_nil)) (blkOk_by (own := [("_law_k", 2)]) (N := ["_law_hand_here", "_law_letters", "_law_k"]) (sc := defScope sTongue) (by decide +kernel)) (fun _ _ _ _ _ => pg_name (i := 2) scTongue.nd rfl (.inl rfl)) (fun _ _ _ _ _ => pts_nil) (fun _ _ _ _ _ => pe_ca cP hr (by decide) (by rfl) (pa_cons (pv 0) (pa_cons (pv 1) pa_nil)))))))), ?_⟩
    have fr : n + 100 ≤ 1000000 := hn
    have lf : small.length = 26 := by decide +kernel
    refine ⟨⟨_, rfl⟩, ?_⟩
    refine ⟨_, rfl, h, 2, n, rfl, by decide, by decide, hd, by show n ≤ 1000000; omega, fun d H1 d0 d1 h1 b1 => ?_⟩
    refine ⟨2, d, rfl, rfl, _, rfl, by omega, by omega, fun L nL => ?_⟩
    have s1 := same_upd nL (o := .lst [])
    have Lh := h1.fresh nL
    refine lc_range (lo := 0) (fun i Hi => ∃ ys : List Str, Hi L = some (.lst (ys.map V.str)) ∧ ys.length = i ∧ (∀ y ∈ ys, ∃ c ∈ small.cps.toList, y = ⟨#[c]⟩) ∧ Hand (n + 1 + i) Hi h ∧ But h H1 Hi) ?_ ?_ ?_
    · exact ⟨[], upd_same, rfl, by simp, (h1.same s1).mono (by omega), Same.but s1 h⟩
    · rintro i Hi hi ⟨ys, eL, ly, cy, hdi, bi⟩
      have hi' : i < (2 + d).toNat := hi
      refine ⟨rfl, ?_⟩
      unfold tYes
      refine iteT ?_
      refine ⟨_, rfl, _, rfl, h, n + 1 + i, _, rfl, hdi, by show n + 1 + (i : Int) ≤ 1000000; omega, .inr ⟨small, rfl, by rw [lf]; decide, by rw [lf]; decide, fun c H2 mc h2 b2 => ?_⟩⟩
      refine ⟨_, b2 _ _ Lh eL, ?_, ys ++ [⟨#[c]⟩], ?_, by rw [List.length_append, ly]; rfl, ?_, ?_, ?_⟩
      · rw [List.length_map, ly]
        exact Nat.lt_of_le_of_lt (show i ≤ 100 by omega) (by decide)
      · rw [upd_same, List.map_append]
        rfl
      · intro y hy
        rcases List.mem_append.mp hy with z | z
        · exact cy y z
        · exact ⟨c, mc, List.mem_singleton.mp z⟩
      · exact (h2.upd (Ne.symm Lh)).mono (by omega)
      · intro b x nb e
        rw [upd_ne (ne_of_none e nL)]
        exact b2 b x nb (bi b x nb e)
    · rintro He ⟨ys, eL, ly, cy, hde, be⟩
      have le : (ys.map (·.length)).sum = ys.length := ones_sum ys (fun y hy => by obtain ⟨c, _, e⟩ := cy y hy; rw [e]; rfl)
      have ly' : (ys.length : Int) = 2 + d := by
        have : ys.length = (2 + d).toNat := ly
        omega
      refine ⟨_, L, ys, rfl, rfl, .inl (SqL.of eL), ?_, ?_⟩
      · rw [le]
        have e0 : (("" : Str)).length = 0 := rfl
        rw [e0]
        omega
      · have jl : (Txt.join "" ys).length = ys.length := by rw [join_len, le]
        refine q _ _ (by rw [jl]; omega) (by rw [jl]; omega) ?_ (hde.mono ?_) (b1.trans be)
        · intro c hc
          rw [join_cps] at hc
          obtain ⟨l, ml, hcl⟩ := List.mem_flatten.mp hc
          obtain ⟨y, my, rfl⟩ := List.mem_map.mp ml
          obtain ⟨c', mc', e⟩ := cy y my
          rw [e] at hcl
          have : c = c' := by simpa using hcl
          rw [this]
          exact mc'
        · show n + 1 + (((2 + d).toNat : Nat) : Int) ≤ n + 10
          omega
theorem ok_names {f : Addr} {fd : FuncData} (D : Df K mg "_law_names" ["_law_hand_here", "_law_many"] sNames f fd) (T : Txt mg) (cT : Ca P w K mg base 1 "_law_take" ["_law_hand_here", "_law_many"] spTake) (cP : Ca P w K mg base 2 "_law_pick" ["_law_hand_here", "_law_some"] spPick) (cS : Ca P w K mg base 1 "_law_signs" [] spSigns) (cX : Ca P w K mg base 3 "_law_text" ["_law_hand_here", "_law_most"] spText) (cG : Ca P w K mg base 3 "_law_tongue" ["_law_hand_here"] spTongue) : FnOk P w K mg base CX0 4 f fd ["_law_hand_here", "_law_many"] spNames := by
  refine D.fn.ok scNames (fun vs H Q E h => ?_) (fun cdv A outer s H vs Q E hr h => ?_)
  · obtain ⟨h, n, many, rfl, m0, m60, hd, hn, q⟩ := h
    rfl
  · obtain ⟨h, n, many, rfl, m0, m60, hd, hn, q⟩ := h
    refine ⟨_, (pss_cons (ps_set (i := 2) scNames.nd rfl (.inl rfl) (pe_ca cX hr (by decide) (by rfl) (pa_cons (pv 0) (pa_cons (pe_ix ix_list (pe_lst (pa_cons pe_int (pa_cons pe_int pa_nil))) (pe_callTy call_int1 (by rfl) T.int (by decide +kernel) (pa_cons (pe_cmpR op_eq (pe_ca cT hr (by decide) (by rfl) (pa_cons (pv 0) (pa_cons pe_int pa_nil))) pe_int (nomark _)) pa_nil)) (fun _ _ => rfl)) pa_nil))))
      (pss_cons (ps_par3 (i := 3) (j := 4) (l := 5) (by rfl) scNames.nd rfl rfl rfl (by decide) (by decide) (by decide) rfl rfl rfl (pa_cons (pe_ca cT hr (by decide) (by rfl) (pa_cons (pv 0) (pa_cons (pe_op op_add (pe_callB call_len_str (by rfl) T.len PySem.boot_len (pa_cons (pv 2) pa_nil)) pe_int) pa_nil))) (pa_cons (pe_callTy (cr_listS (by rfl)) (by rfl) T.list (by decide +kernel) (pa_cons (pe_ca0 cS hr (by decide) (by rfl)) pa_nil)) (pa_cons (pe_lst pa_nil) pa_nil))) (by rfl))
      (pss_cons (ps_set (i := 6) scNames.nd rfl (.inl rfl) (pe_lst (pa_cons (pe_ca cG hr (by decide) (by rfl) (pa_cons (pv 0) pa_nil)) (pa_cons (pe_ca cG hr (by decide) (by rfl) (pa_cons (pv 0) pa_nil)) pa_nil))))
      (pss_cons (ps_for PassesOwn.never rfl (pi_range1 (by rfl) T.range (pa_cons (pv 1) pa_nil)) (pg_name (i := 7) scNames.nd rfl (.inl rfl)) (pss_cons (ps_set (i := 8) scNames.nd rfl (.inl rfl) (pe_bm PySem.F.plainAttrs_list PySem.F.slot_list_pop PySem.F.type_list_pop mt_popAt (pv 4) (pa_cons (pe_ca cT hr (by decide) (by rfl) (pa_cons (pv 0) (pa_cons (pe_callB call_len_seq (by rfl) T.len PySem.boot_len (pa_cons (pv 4) pa_nil)) pa_nil))) pa_nil)))
      (pss_one (ps_expr (pe_bm PySem.F.plainAttrs_list PySem.F.slot_list_append PySem.F.type_list_append mt_append (pv 5) (pa_cons (pe_tup (pa_cons (pe_ca cP hr (by decide) (by rfl) (pa_cons (pv 0) (pa_cons (pv 6) pa_nil))) (pa_cons (pe_op op_add_str (pe_op op_add_str (pe_slice sl_str (pv 2) po_none (po_some (pv 3))) (pv 8)) (pe_slice sl_str (pv 2) (po_some (pv 3)) po_none)) pa_nil))) pa_nil))))))
      (pss_one (ps_ret (pv 5))))))), ?_⟩
    have fr : n + 2000 ≤ 1000000 := hn
    have l65 : lawSigns.length = 65 := by decide +kernel
    -- stem
    refine ⟨_, rfl, (by show 2 ≤ sizeLine; decide), fun l1 nl1 => ?_⟩
    have s1 := same_upd nl1 (o := .lst [.int 12, .int 39])
    have e1 : (upd H l1 (.lst [.int 12, .int 39])) l1 = some (.lst [.int 12, .int 39]) := upd_same
    generalize upd H l1 (.lst [.int 12, .int 39]) = H1 at s1 e1 ⊢
    have l1h := hd.fresh nl1
    refine ⟨_, rfl, h, 8, n, rfl, by decide, by decide, hd.same s1, by show n ≤ 1000000; omega, fun d H2 d0 d1 h2 b2 => ?_⟩
    have pk : ∀ b : Bool, ∃ m : Int, atI [V.int 12, .int 39] (if b = true then 1 else 0) = some (.int m) ∧ 1 ≤ m ∧ m ≤ 39 := fun b => by
      cases b
      · exact ⟨12, rfl, by decide, by decide⟩
      · exact ⟨39, rfl, by decide, by decide⟩
    obtain ⟨m, em, m0, m1⟩ := pk (decide (V.int d = V.int 7))
    refine ⟨rfl, .inr ⟨_, rfl, l1, _, _, _, rfl, rfl, SqL.of (b2 _ _ l1h e1), em, ?_⟩⟩
    refine ⟨h, n + 1, m, rfl, m0, by omega, h2, by show n + 1 + 200 ≤ 1000000; omega, fun st H3 st0 st1 as h3 b3 => ?_⟩
    have bb : But h H H3 := (Same.but s1 h).trans (b2.trans b3)
    clear b2 b3 s1 e1 h2
    have lsz : st.length ≤ sizeLine := Nat.le_trans (show st.length ≤ 100 by omega) (by decide)
    -- at, signs, found
    refine ⟨_, rfl, _, rfl, st, rfl, lsz, _, 1, rfl, rfl, h, (st.length : Int) + 1, n + 101, rfl, by omega, lt30i (by omega), h3.mono (by omega), by show n + 101 ≤ 1000000; omega, fun at' H4 a0 a1 h4 b4 => ?_⟩
    obtain ⟨k0, rfl⟩ : ∃ k0 : Nat, at' = (k0 : Int) := ⟨at'.toNat, by omega⟩
    refine ⟨rfl, lawSigns, rfl, by rw [l65]; decide, fun S nS => ?_⟩
    have sS := same_upd nS (o := .lst (lawSigns.cps.toList.map sg1))
    have eS : (upd H4 S (.lst (lawSigns.cps.toList.map sg1))) S = some (.lst (lawSigns.cps.toList.map sg1)) := upd_same
    have Sh := h4.fresh nS
    generalize upd H4 S (.lst (lawSigns.cps.toList.map sg1)) = H5 at sS eS ⊢
    refine ⟨(by show 0 ≤ sizeLine; decide), fun F nF => ?_⟩
    have sF := same_upd nF (o := .lst [])
    have eF : (upd H5 F (.lst [])) F = some (.lst []) := upd_same
    have Fh := (h4.same sS).fresh nF
    have SF : S ≠ F := ne_of_none eS nF
    generalize upd H5 F (.lst []) = H6 at sF eF ⊢
    refine ⟨_, _, _, rfl, ?_⟩
    have HF : H F = none := bb.free Fh (b4.free Fh (by
      cases z : H4 F with
      | none => rfl
      | some o => have := sS _ _ z; rw [nF] at this; cases this))
    have HS : H S = none := bb.free Sh (b4.free Sh nS)
    have b7 : But h H H6 := bb.trans (b4.trans (Same.but (sS.trans sF) h))
    have h7 := (h4.same sS).same sF
    have eS7 := sF _ _ eS
    have eF7 := eF
    clear h4 h3 b4 bb sS sF
    -- tongues
    refine ⟨_, rfl, h, n + 102, rfl, h7.mono (by omega), by show n + 102 + 100 ≤ 1000000; omega, fun t1 H8 lt1' lt1 at1 h8 b8 => ?_⟩
    refine ⟨_, rfl, h, n + 112, rfl, h8.mono (by omega), by show n + 112 + 100 ≤ 1000000; omega, fun t2 H9 lt2' lt2 at2 h9 b9 => ?_⟩
    refine ⟨(by show 2 ≤ sizeLine; decide), fun T' nT => ?_⟩
    have sT := same_upd nT (o := .lst [.str t1, .str t2])
    have eT : (upd H9 T' (.lst [.str t1, .str t2])) T' = some (.lst [.str t1, .str t2]) := upd_same
    have Th := h9.fresh nT
    have eS9 := b9 _ _ Sh (b8 _ _ Sh eS7)
    have eF9 := b9 _ _ Fh (b8 _ _ Fh eF7)
    have ST : S ≠ T' := ne_of_none eS9 nT
    have FT : F ≠ T' := ne_of_none eF9 nT
    generalize upd H9 T' (.lst [.str t1, .str t2]) = HA at sT eT ⊢
    have bA : But h H HA := b7.trans (b8.trans (b9.trans (Same.but sT h)))
    have hA := h9.same sT
    have eSA := sT _ _ eS9
    have eFA := sT _ _ eF9
    clear sT b9 b8 b7 h9 h8 h7 eS9 eF9 eS7 eF7
    have kst : k0 ≤ st.cps.toList.length := by rw [← len_cps]; omega
    refine ⟨_, rfl, many, rfl, by omega, by omega, for_range (lo := 0) (n := many.toNat) (fun k σ Hi => ∃ (sg cs : List Nat) (xs : List V) (ns : List Nm) (c7 c8 : Option V), σ = [some (.ref h), some (.int many), some (.str st), some (.int (k0 : Int)), some (.ref S), some (.ref F), some (.ref T'), c7, c8] ∧
      Hi S = some (.lst (sg.map sg1)) ∧ sg.length + k = 65 ∧ (cs ++ sg).Nodup ∧ (∀ c ∈ sg, c ∈ N44.signs.cps.toList ∧ c ≠ 32) ∧ Hi T' = some (.lst [.str t1, .str t2]) ∧ Hi F = some (.lst xs) ∧ NmL Hi xs ns ∧ ns.map (·.2) = cs.map (insT st k0) ∧ ns.length = k ∧ (∀ m ∈ ns, Gn' m) ∧ Hand (n + 122 + 3 * k) Hi h ∧ But h H Hi) ?_ ?_ ?_⟩
    · exact ⟨_, [], [], [], none, none, rfl, eSA, (by decide +kernel), (by decide +kernel), lawSigns_ok, eT, eFA, .nil, rfl, rfl, by simp, hA.mono (by omega), bA⟩
    · rintro k σ Hi hk ⟨sg, cs, xs, ns, c7, c8, rfl, eSi, lsg, nd, csg, eTi, eFi, nml, esn, lns, gns, hdi, bi⟩
      have hk' : k < many.toNat := hk
      have nkb : n + 122 + 3 * (k : Int) + 10 ≤ 1000000 := by omega
      have sgl : 0 < sg.length := by omega
      refine ⟨_, rfl, .inl ⟨rfl, _, SqL.of eSi⟩, _, rfl, _, rfl, S, _, rfl, .inl (SqL.of eSi), h, ((sg.map sg1).length : Int), n + 122 + 3 * k, rfl, by rw [List.length_map]; omega, by rw [List.length_map]; exact lt30i (by omega), hdi, by show n + 122 + 3 * (k : Int) ≤ 1000000; omega, fun j Hb j0 j1 hb bb => ?_⟩
      rw [List.length_map] at j1
      obtain ⟨jn, rfl⟩ : ∃ jn : Nat, j = (jn : Int) := ⟨j.toNat, by omega⟩
      have jl : jn < sg.length := by omega
      have eSb := bb _ _ Sh eSi
      refine ⟨S, _, (jn : Int), jn, sg1 sg[jn], rfl, rfl, eSb, by omega, by omega, by rw [List.length_map, seqIndex_of (by omega) (by omega)]; rfl, by rw [List.getElem?_map, List.getElem?_eq_getElem jl]; rfl, ?_⟩
      have er : (sg.map sg1).eraseIdx jn = (sg.eraseIdx jn).map sg1 := erase_map sg1 sg jn
      rw [er]
      have mj := csg _ (List.getElem_mem jl)
      have nd' : (cs ++ sg[jn] :: sg.eraseIdx jn).Nodup := (List.Perm.nodup_iff (List.Perm.append_left _ (perm_erase sg jn jl))).mp nd
      generalize sg[jn] = cj at mj nd' ⊢
      have eSc : (upd Hb S (.lst ((sg.eraseIdx jn).map sg1))) S = some (.lst ((sg.eraseIdx jn).map sg1)) := upd_same
      have eTc : (upd Hb S (.lst ((sg.eraseIdx jn).map sg1))) T' = some (.lst [.str t1, .str t2]) := by rw [upd_ne (Ne.symm ST)]; exact bb _ _ Th eTi
      have eFc : (upd Hb S (.lst ((sg.eraseIdx jn).map sg1))) F = some (.lst xs) := by rw [upd_ne (Ne.symm SF)]; exact bb _ _ Fh eFi
      have hc := hb.upd (Ne.symm Sh) (x := .lst ((sg.eraseIdx jn).map sg1))
      have tpb : ∀ {Hx Hy : Hp} {m : Int}, Hand m Hx h → But h Hx Hy → Tp Hx Hy := fun {Hx Hy m} hx b c ys e => b c _ (hx.ne_tup (K := K) e) e
      have pc : Tp Hi (upd Hb S (.lst ((sg.eraseIdx jn).map sg1))) := (tpb hdi bb).trans (tp_upd (fun ys z => by rw [eSb] at z; cases z))
      have bc : But h H (upd Hb S (.lst ((sg.eraseIdx jn).map sg1))) := fun b x nb e => by
        rw [upd_ne (ne_of_none e HS)]
        exact bb b x nb (bi b x nb e)
      have lsg' : (sg.eraseIdx jn).length + (k + 1) = 65 := by
        rw [List.length_eraseIdx_of_lt jl]
        omega
      have csg' : ∀ c ∈ sg.eraseIdx jn, c ∈ N44.signs.cps.toList ∧ c ≠ 32 := fun c hc => csg c (List.mem_of_mem_eraseIdx hc)
      generalize upd Hb S (.lst ((sg.eraseIdx jn).map sg1)) = Hc at eSc eTc eFc hc pc bc ⊢
      generalize sg.eraseIdx jn = sg' at eSc lsg' csg' nd' ⊢
      clear eSb hb bb er j0 j1
      have tne : [V.str t1, V.str t2] ≠ [] := by simp
      refine ⟨_, rfl, .inl ⟨rfl, _, SqL.of eFc⟩, _, rfl, _, rfl, h, n + 122 + 3 * k + 1, _, rfl, hc, by show n + 122 + 3 * (k : Int) + 1 ≤ 1000000; omega, .inl ⟨T', _, rfl, eTc, Th, tne, by show 2 < 1000; decide, fun v1 Ha mv1 ha ba => ?_⟩⟩
      obtain ⟨tt, rfl, ltt, att⟩ : ∃ tt : Str, v1 = .str tt ∧ (2 ≤ tt.length ∧ tt.length ≤ 3) ∧ N44.letts tt := by
        simp only [List.mem_cons, List.not_mem_nil, or_false] at mv1
        rcases mv1 with e | e
        · exact ⟨t1, e, ⟨lt1', lt1⟩, at1⟩
        · exact ⟨t2, e, ⟨lt2', lt2⟩, at2⟩
      have il := ins_len (c := cj) kst
      have z1 : (⟨#[cj]⟩ : Str).length = 1 := rfl
      have fit1 : (cutS st none (some (k0 : Int))).length + (⟨#[cj]⟩ : Str).length ≤ sizeLine := by rw [z1]; exact Nat.le_trans (show _ ≤ 100 by omega) (by decide)
      have fit2 : (cutS st none (some (k0 : Int)) ++ ⟨#[cj]⟩).length + (cutS st (some (k0 : Int)) none).length ≤ sizeLine := by rw [strLen_append, z1]; exact Nat.le_trans (show _ ≤ 100 by omega) (by decide)
      refine ⟨_, rfl, _, rfl, (k0 : Int), rfl, st, rfl, lsz, _, rfl, _, _, rfl, rfl, fit1, _, rfl, _, rfl, (k0 : Int), rfl, st, rfl, lsz, _, _, rfl, rfl, fit2, (by show 2 ≤ sizeLine; decide), fun t nt => ?_⟩
      have st2 := same_upd nt (o := .tup [.str tt, .str (insT st k0 cj)])
      have et : (upd Ha t (.tup [.str tt, .str (insT st k0 cj)])) t = some (.tup [.str tt, .str (insT st k0 cj)]) := upd_same
      have eFa := st2 _ _ (ba _ _ Fh eFc)
      have eSa := st2 _ _ (ba _ _ Sh eSc)
      have eTa := st2 _ _ (ba _ _ Th eTc)
      have ha' := ha.same st2
      have ba' : But h H (upd Ha t (.tup [.str tt, .str (insT st k0 cj)])) := bc.trans (ba.trans (Same.but st2 h))
      have pa : Tp Hi (upd Ha t (.tup [.str tt, .str (insT st k0 cj)])) := pc.trans ((tpb hc ba).trans (tp_same st2))
      refine ⟨F, _, _, rfl, rfl, eFa, ?_, ?_⟩
      · rw [nml.len, lns]
        exact Nat.lt_of_le_of_lt (show k ≤ 100 by omega) (by decide)
      have TF : T' ≠ F := Ne.symm FT
      refine ⟨sg', cs ++ [cj], _, ns ++ [(tt, insT st k0 cj)], _, _, rfl, by rw [upd_ne SF]; exact eSa, lsg', by rw [List.append_assoc]; exact nd', csg', by rw [upd_ne TF]; exact eTa, upd_same, ?_, by rw [List.map_append, List.map_append, esn]; rfl, by rw [List.length_append, lns]; rfl, fun m hm => ?_, (ha'.upd (Ne.symm Fh)).mono (by omega), fun b x nb e => ?_⟩
      · have pf : Tp (upd Ha t (.tup [.str tt, .str (insT st k0 cj)])) (upd (upd Ha t (.tup [.str tt, .str (insT st k0 cj)])) F (.lst (xs ++ [.ref t]))) := tp_upd (fun ys z => by rw [eFa] at z; cases z)
        exact (nml.tp (pa.trans pf)).snoc ⟨t, rfl, pf _ _ et⟩
      · rcases List.mem_append.mp hm with z | z
        · exact gns m z
        · rw [List.mem_singleton.mp z]
          have l1 : (insT st k0 cj).length = st.length + 1 := by
            have e1 := congrArg List.length (ins_cps (c := cj) kst)
            rw [List.length_append, List.length_cons, List.length_take, List.length_drop, ← len_cps] at e1
            show (cutS st none (some (k0 : Int)) ++ ⟨#[cj]⟩ ++ cutS st (some (k0 : Int)) none).length = st.length + 1
            have := len_cps st
            omega
          exact ⟨att, ltt.1, ltt.2, insT_ok kst as mj, by show 1 ≤ (insT st k0 cj).length; omega, by show (insT st k0 cj).length ≤ 40; omega⟩
      · rw [upd_ne (ne_of_none e HF)]
        exact ba' b x nb e
    rintro σ He ⟨sg, cs, xs, ns, c7, c8, rfl, eS, lsg, nd, csg, eT', eF, nml, esn, lns, gns, hde, be⟩
    have lns' : (ns.length : Int) = many := by
      have : ns.length = many.toNat := lns
      omega
    refine ⟨_, rfl, q F xs ns He eF Fh HF nml lns' ?_ gns (hde.mono ?_) be⟩
    · rw [esn]
      exact List.pairwise_map.mpr ((List.nodup_append.mp nd).1.imp fun ne e => ne (insT_inj kst e))
    · show n + 122 + 3 * ((many.toNat : Nat) : Int) ≤ n + 400
      omega
end
end K44
set_option Elab.async false
set_option linter.all false
set_option maxRecDepth 100000
set_option maxHeartbeats 4000000
set_option pp.maxSteps 400
set_option pp.deepTerms false
namespace K44
open PySem PySem.Spec PyProof.Rows L2
open Xk Az W37
section
variable {P : Program} {w : World} {K : PySem.W.Frag} {mg : Str → Option Value} {base : Heap}
/-- all stands but the hand and a list -/
def B2 (h L : Addr) (H H' : Hp) : Prop := ∀ b o, b ≠ h → b ≠ L → H b = some o → H' b = some o
theorem ne_of_none' {H : Hp} {a b : Addr} {o : HO} (h : H a = some o) (h' : H b = none) : b ≠ a := Ne.symm (ne_of_none h h')
theorem drop_take_app {α : Type} (a b : Nat) (l : List α) (h : a ≤ b) : (l.take b).drop a ++ l.drop b = l.drop a := by
  have e := List.take_append_drop b l
  conv => rhs; rw [← e]
  by_cases hb : b ≤ l.length
  · rw [List.drop_append_of_le_length (by rw [List.length_take]; omega)]
  · rw [List.drop_of_length_le (l := l) (i := b) (by omega), List.append_nil, List.append_nil]
def spTree : Nat → Sp
  | 0 => fun _ _ _ _ => False
  | k + 1 => fun vs H Q _ => ∃ (h : Addr) (n : Int) (L : Addr) (xs : List V) (ns : List Nm), vs = [.ref h, .int ((k + 1 : Nat) : Int), .ref L] ∧ H L = some (.lst xs) ∧ L ≠ h ∧ NmL H xs ns ∧ ns ≠ [] ∧ ns.length ≤ 60 ∧ Hand n H h ∧ n + (ns.length : Int) ≤ far ∧
    ∀ v w m H', m < ns.length → H' L = some (.lst (xs.take m)) → Wk H' v w → w.nms = (ns.drop m).reverse → w.dp ≤ k + 1 → Hand (n + (ns.length - m : Nat)) H' h → B2 h L H H' → Q v H'
theorem ok_tree {f : Addr} {fd : FuncData} {k : Nat} (D : Df K mg "_law_tree" ["_law_hand_here", "_law_deep", "_law_left"] sTree f fd) (T : Txt mg) (cP : Ca P w K mg base 2 "_law_pick" ["_law_hand_here", "_law_some"] spPick) (cTr : Ca P w K mg base (k + 3) "_law_tree" ["_law_hand_here", "_law_deep", "_law_left"] (spTree k)) : FnOk P w K mg base CX0 (k + 4) f fd ["_law_hand_here", "_law_deep", "_law_left"] (spTree (k + 1)) := by
  refine D.fn.ok scTree (fun vs H Q E h => ?_) (fun cdv A outer s H vs Q E hr h => ?_)
  · obtain ⟨h, n, L, xs, ns, rfl, eL, nLh, nml, nne, n60, hh, hn, q⟩ := h
    rfl
  · obtain ⟨h, n, L, xs, ns, rfl, eL, nLh, nml, nne, n60, hh, hn, q⟩ := h
    refine ⟨_, (pss_cons (ps_par (i := 3) (j := 4) (by rfl) scTree.nd rfl rfl (by decide) rfl rfl (pa_cons (pe_bm0 PySem.F.plainAttrs_list PySem.F.slot_list_pop PySem.F.type_list_pop mt_pop (pv 2)) (pa_cons (pe_lst pa_nil) pa_nil)) (by rfl))
      (C8.pss_cut (ps_if (pt_cmpR op_gt (pv 1) pe_int (nomark _)) (pss_one (ps_for PassesOwn.never rfl (pi_range1 (by rfl) T.range (pa_cons (pe_ca cP hr (by omega) (by rfl) (pa_cons (pv 0) (pa_cons (pe_lst (pa_cons pe_int (pa_cons pe_int (pa_cons pe_int (pa_cons pe_int (pa_cons pe_int (pa_cons pe_int pa_nil))))))) pa_nil))) pa_nil)) (pg_name (i := 5) scTree.nd rfl (.inl rfl)) (pss_one (ps_if (pt_cmpR (Xt.op_neL0 hr.units) (pv 2) (pe_lst pa_nil) (nomark _)) (pss_one (ps_expr (pe_bm PySem.F.plainAttrs_list PySem.F.slot_list_append PySem.F.type_list_append mt_append (pv 4) (pa_cons (pe_ca cTr hr (by omega) (by rfl) (pa_cons (pv 0) (pa_cons (pe_op op_sub (pv 1) pe_int) (pa_cons (pv 2) pa_nil)))) pa_nil)))) pss_nil)))) pss_nil)
      (pss_one (ps_ret (pe_tup (pa_cons (pv 3) (pa_cons (pe_callTy call_tuple_of (by rfl) T.tuple (by decide +kernel) (pa_cons (pv 4) pa_nil)) pa_nil))))))), ?_⟩
    have fr : n + (ns.length : Int) ≤ 1000000 := hn
    have lx := nml.len
    have npos : 0 < ns.length := List.length_pos_iff.mpr nne
    obtain ⟨m0, em0⟩ : ∃ m0, ns.length = m0 + 1 := ⟨ns.length - 1, by omega⟩
    have hm : m0 < xs.length := by omega
    obtain ⟨nm, enm, nv⟩ := nml.get (List.getElem?_eq_getElem hm)
    have HL0 : ∀ {b : Addr}, H b = none → b ≠ L := fun {b} e z => by rw [z, eL] at e; cases e
    refine ⟨_, rfl, .inl ⟨rfl, _, SqL.of eL⟩, L, xs, xs[m0], rfl, rfl, eL, by rw [show xs.length - 1 = m0 by omega]; exact List.getElem?_eq_getElem hm, ?_⟩
    have edl : xs.dropLast = xs.take m0 := by rw [List.dropLast_eq_take]; congr 1; omega
    rw [edl]
    have eL1 : (upd H L (.lst (xs.take m0))) L = some (.lst (xs.take m0)) := upd_same
    have h1 := hh.upd (Ne.symm nLh) (x := .lst (xs.take m0))
    have b1 : B2 h L H (upd H L (.lst (xs.take m0))) := fun b o _ nb e => by rw [upd_ne nb]; exact e
    generalize upd H L (.lst (xs.take m0)) = H1 at eL1 h1 b1 ⊢
    refine ⟨(by show 0 ≤ sizeLine; decide), fun P' nP => ⟨_, _, rfl, ?_⟩⟩
    have sP := same_upd nP (o := .lst [])
    have eP : (upd H1 P' (.lst [])) P' = some (.lst []) := upd_same
    have PL : P' ≠ L := ne_of_none' eL1 nP
    have Ph := h1.fresh nP
    generalize upd H1 P' (.lst []) = H2 at sP eP ⊢
    have HP : H P' = none := by
      cases z : H P' with
      | none => rfl
      | some o => have := b1 _ _ Ph PL z; rw [nP] at this; cases this
    have b2 : B2 h L H H2 := fun b o e1 e2 e => sP _ _ (b1 b o e1 e2 e)
    have eL2 := sP _ _ eL1
    have h2 := h1.same sP
    have nmv : NmV H xs[m0] nm := nv
    have tpB : ∀ {Hx : Hp}, B2 h L H Hx → Tp H Hx := fun {Hx} b c ys e => b c _ (hh.ne_tup (K := K) e) (fun z => by rw [z, eL] at e; cases e) e
    clear sP b1 h1 eL1 nP
    refine ⟨fun σ Hx => ∃ (ys : List V) (ws : List W) (m : Nat) (c5 : Option V), σ = [some (.ref h), some (.int ((k + 1 : Nat) : Int)), some (.ref L), some xs[m0], some (.ref P'), c5] ∧ Hx P' = some (.lst ys) ∧ WkL Hx ys ws ∧ m ≤ m0 ∧ ys.length ≤ 60 ∧ Hx L = some (.lst (xs.take m)) ∧ nm :: nmsL ws = (ns.drop m).reverse ∧ dpL ws ≤ k ∧ Hand (n + (ns.length - m : Nat)) Hx h ∧ B2 h L H Hx, ?_, ?_⟩
    · have dr0 : (ns.drop m0).reverse = [nm] := by
        have hl : m0 < ns.length := by omega
        rw [List.drop_eq_getElem_cons hl, List.drop_of_length_le (by omega)]
        rw [List.getElem?_eq_getElem hl] at enm
        cases enm
        rfl
      refine ⟨_, rfl, _, 1, rfl, rfl, _, rfl, ite2 (fun e => ?_) (fun e => ?_)⟩
      · have k1 : 1 ≤ k := by
          have : ((k + 1 : Nat) : Int) > 1 := of_decide_eq_true e
          omega
        obtain ⟨j, rfl⟩ : ∃ j, k = j + 1 := ⟨k - 1, by omega⟩
        refine ⟨_, rfl, (by show 6 ≤ sizeLine; decide), fun p np => ?_⟩
        have sp := same_upd np (o := .lst [.int 0, .int 1, .int 2, .int 3, .int 4, .int 2])
        have hp := h2.same sp
        refine ⟨h, n, _, rfl, hp, by show n ≤ 1000000; omega, .inl ⟨p, _, rfl, upd_same, h2.fresh np, by simp, by show 6 < 1000; decide, fun v H3 mv h3 b3 => ?_⟩⟩
        obtain ⟨r, rfl, r0, r1⟩ : ∃ r : Int, v = .int r ∧ 0 ≤ r ∧ r ≤ 4 := by
          simp only [List.mem_cons, List.not_mem_nil, or_false] at mv
          rcases mv with e | e | e | e | e | e <;> exact ⟨_, e, by decide, by decide⟩
        have b3' : B2 h L H H3 := fun b o e1 e2 e => b3 b o e1 (sp _ _ (b2 b o e1 e2 e))
        have eP3 := b3 _ _ Ph (sp _ _ eP)
        have eL3 := b3 _ _ nLh (sp _ _ eL2)
        clear sp hp b3 mv
        refine ⟨r, rfl, by omega, by omega, for_range (lo := 0) (n := r.toNat) (fun i σ Hx => ∃ (ys : List V) (ws : List W) (m : Nat) (c5 : Option V), σ = [some (.ref h), some (.int ((j + 1 + 1 : Nat) : Int)), some (.ref L), some xs[m0], some (.ref P'), c5] ∧ Hx P' = some (.lst ys) ∧ WkL Hx ys ws ∧ m ≤ m0 ∧ ys.length ≤ i ∧ Hx L = some (.lst (xs.take m)) ∧ nm :: nmsL ws = (ns.drop m).reverse ∧ dpL ws ≤ j + 1 ∧ Hand (n + (ns.length - m : Nat)) Hx h ∧ B2 h L H Hx) ?_ ?_ ?_⟩
        · exact ⟨[], [], m0, none, rfl, eP3, .nil, Nat.le_refl _, Nat.le_refl _, eL3, by rw [dr0]; rfl, by simp [dpL], h3.mono (by omega), b3'⟩
        · rintro i σ Hx hi ⟨ys, ws, m, c5, rfl, ePx, wl, mm, ly, eLx, enw, dl, hx, bx⟩
          have i4 : i < r.toNat := hi
          refine ⟨_, rfl, (by show 0 ≤ sizeLine; decide), fun z nz => ?_⟩
          have sz := same_upd nz (o := .lst [])
          refine ⟨L, z, _, rfl, rfl, sz _ _ eLx, upd_same, _, rfl, ?_⟩
          have zL : z ≠ L := ne_of_none' eLx nz
          have zP : z ≠ P' := ne_of_none' ePx nz
          generalize upd Hx z (.lst []) = Hy at sz ⊢
          have bxy : B2 h L H Hy := fun b o e1 e2 e => sz _ _ (bx b o e1 e2 e)
          cases em : (xs.take m).isEmpty
          · refine iteT ?_
            have mpos : 0 < m := by
              rcases Nat.eq_zero_or_pos m with z0 | z0
              · rw [z0] at em; cases em
              · exact z0
            have ltk : (ns.take m).length = m := by rw [List.length_take]; omega
            refine ⟨_, rfl, .inl ⟨rfl, _, SqL.of (sz _ _ ePx)⟩, _, rfl, _, rfl, _, 1, rfl, rfl, _, rfl, ?_⟩
            refine ⟨h, n + (ns.length - m : Nat), L, xs.take m, ns.take m, (by show [V.ref h, V.int (((j + 1 + 1 : Nat) : Int) - 1), .ref L] = [V.ref h, .int ((j + 1 : Nat) : Int), .ref L]; rw [show ((j + 1 + 1 : Nat) : Int) - 1 = ((j + 1 : Nat) : Int) by omega]), sz _ _ eLx, nLh, (nml.take m).tp (tpB bxy), (fun z0 => by rw [z0] at ltk; simp at ltk; omega), by omega, hx.same sz, ?_, fun v w m' Hz hm' eLz wk enm' dw hz bz => ?_⟩
            · show n + ((ns.length - m : Nat) : Int) + ((ns.take m).length : Int) ≤ 1000000
              omega
            · have ePz := bz _ _ Ph PL (sz _ _ ePx)
              have bz' : B2 h L H Hz := fun b o e1 e2 e => bz b o e1 e2 (bxy b o e1 e2 e)
              refine ⟨P', ys, v, rfl, rfl, ePz, Nat.lt_of_le_of_lt (show ys.length ≤ 100 by omega) (by decide), ?_⟩
              have up : Tp Hz (upd Hz P' (.lst (ys ++ [v]))) := tp_upd (fun us z => by rw [ePz] at z; cases z)
              have bP : B2 h L H (upd Hz P' (.lst (ys ++ [v]))) := fun b o e1 e2 e => by
                rw [upd_ne (ne_of_none e HP)]
                exact bz' b o e1 e2 e
              have txz : Tp Hx Hz := fun c us e => bz c _ (hx.ne_tup (K := K) e) (fun z => by rw [z, eLx] at e; cases e) (sz _ _ e)
              rw [ltk] at hm'
              refine ⟨ys ++ [v], ws ++ [w], m', _, rfl, upd_same, (wl.tp (txz.trans up)).snoc (wk.tp up), by omega, ?_, ?_, ?_, dpL_app ws w (j + 1) dl (Nat.le_trans dw (Nat.le_refl _)), (hz.upd (Ne.symm Ph)).mono ?_, bP⟩
              · rw [List.length_append]; exact Nat.add_le_add_right ly 1
              · rw [upd_ne (Ne.symm PL), eLz, List.take_take, Nat.min_eq_left (by omega)]
              · rw [nmsL_app, nmsL, nmsL, List.append_nil, ← List.cons_append, enw, enm', ← List.reverse_append, drop_take_app m' m ns (by omega)]
              · rw [ltk]
                omega
          · refine iteF ⟨ys, ws, m, _, rfl, sz _ _ ePx, wl.tp (tp_same sz), mm, Nat.le_succ_of_le ly, sz _ _ eLx, enw, dl, hx.same sz, bxy⟩
        · rintro σ Hx ⟨ys, ws, m, c5, rfl, r1, r2, r3, r4, r5⟩
          exact ⟨ys, ws, m, c5, rfl, r1, r2, r3, Nat.le_trans r4 (by omega), r5⟩
      · exact ⟨[], [], m0, none, rfl, eP, .nil, Nat.le_refl _, by simp, eL2, by rw [dr0]; rfl, by simp [dpL], h2.mono (by omega), b2⟩
    rintro σ Hx ⟨ys, ws, m, c5, rfl, ePx, wl, mm, ly, eLx, enw, dl, hx, bx⟩
    refine ⟨_, rfl, _, rfl, P', _, rfl, .inl ⟨SqL.of ePx, fun p np => ?_⟩⟩
    have s1 := same_upd np (o := .tup ys)
    have e1 : (upd Hx p (.tup ys)) p = some (.tup ys) := upd_same
    generalize upd Hx p (.tup ys) = Hy at s1 e1 ⊢
    refine ⟨(by show 2 ≤ sizeLine; decide), fun t nt => ?_⟩
    have s2 := same_upd nt (o := .tup [xs[m0], .ref p])
    have e2 : (upd Hy t (.tup [xs[m0], .ref p])) t = some (.tup [xs[m0], .ref p]) := upd_same
    generalize upd Hy t (.tup [xs[m0], .ref p]) = Hz at s2 e2 ⊢
    have tz : Tp Hx Hz := (tp_same s1).trans (tp_same s2)
    refine q _ (.mk nm ws) m Hz (by omega) (s2 _ _ (s1 _ _ eLx)) (.mk e2 (nmv.tp ((tpB bx).trans tz)) (s2 _ _ e1) (wl.tp tz)) ?_ ?_ ((hx.same s1).same s2) (fun b o e1 e2 e => s2 _ _ (s1 _ _ (bx b o e1 e2 e)))
    · rw [W.nms]; exact enw
    · rw [W.dp]; omega
theorem tree_fn {f : Addr} {fd : FuncData} (D : Df K mg "_law_tree" ["_law_hand_here", "_law_deep", "_law_left"] sTree f fd) (T : Txt mg) (cP : Ca P w K mg base 2 "_law_pick" ["_law_hand_here", "_law_some"] spPick) :
    ∀ k, FnOk P w K mg base CX0 (k + 3) f fd ["_law_hand_here", "_law_deep", "_law_left"] (spTree k)
  | 0 => ⟨fun _ _ _ _ h => h.elim, fun _ _ _ _ _ _ _ _ _ _ _ _ _ h => h.elim⟩
  | k + 1 => ok_tree D T cP (D.ca (tree_fn D T cP k))
end
end K44
set_option Elab.async false
set_option linter.all false
set_option maxRecDepth 100000
set_option maxHeartbeats 4000000
set_option pp.maxSteps 400
set_option pp.deepTerms false
namespace K44
open PySem PySem.Spec PyProof.Rows L2
open Xk Az W37
section
variable {P : Program} {w : World} {K : PySem.W.Frag} {mg : Str → Option Value} {base : Heap}
theorem _root_.W37.W.dp_pos : ∀ w : W, 1 ≤ w.dp
  | .mk _ _ => by rw [W.dp]; omega
theorem nmsL_take : ∀ (i : Nat) (ps : List W), (nmsL (ps.take i)).length ≤ (nmsL ps).length
  | 0, ps => by rw [List.take_zero, nmsL]; simp
  | _ + 1, [] => by simp [nmsL]
  | i + 1, w :: r => by
    rw [List.take_succ_cons, nmsL, nmsL, List.length_append, List.length_append]
    have := nmsL_take i r
    omega
theorem nmsL_mem : ∀ {ps : List W} {w : W}, w ∈ ps → w.nms.length ≤ (nmsL ps).length
  | x :: r, w, h => by
    rw [nmsL, List.length_append]
    rcases List.mem_cons.mp h with z | z
    · rw [z]; omega
    · have := nmsL_mem z
      omega
theorem cutV_take (xs : List V) (k : Nat) : cutV xs none (some (k : Int)) = xs.take k := by
  unfold cutV
  have e1 : HT.sIx xs.length 0 none = 0 := rfl
  have e2 : HT.sIx xs.length xs.length (some (k : Int)) = min k xs.length := by rw [HT.sIx_nat]
  rw [e1, e2, List.drop_zero, Nat.sub_zero]
  by_cases h : k ≤ xs.length
  · rw [Nat.min_eq_left h]
  · rw [Nat.min_eq_right (by omega), List.take_of_length_le (Nat.le_refl _), List.take_of_length_le (by omega)]
theorem cutV_drop (xs : List V) (k : Nat) (h : k ≤ xs.length) : cutV xs (some (k : Int)) none = xs.drop k := by
  unfold cutV
  have e1 : HT.sIx xs.length 0 (some (k : Int)) = min k xs.length := by rw [HT.sIx_nat]
  have e2 : HT.sIx xs.length xs.length none = xs.length := rfl
  rw [e1, e2, Nat.min_eq_left h, List.take_of_length_le (by rw [List.length_drop]; omega)]
/-- what is found in another list, each at most once -/
theorem sub_names (ns : List Nm) (k m : Nat) : List.Sublist ((((ns.take k).drop m).reverse ++ ns.drop k).map fun x => x) ((ns.take k).reverse ++ ns.drop k) := by
  rw [List.map_id']
  exact List.Sublist.append_right (List.Sublist.reverse (List.drop_sublist m _)) _
theorem rev_nodup {ns : List Nm} {k : Nat} {ys : List Nm} (h : (ns.map (·.2)).Nodup) (s : List.Sublist ys ((ns.take k).reverse ++ ns.drop k)) : (ys.map (·.2)).Nodup := by
  refine (List.Sublist.map _ s).nodup ?_
  have p : ((ns.take k).reverse ++ ns.drop k).Perm ns := by
    conv => rhs; rw [← List.take_append_drop k ns]
    exact List.Perm.append_right _ (List.reverse_perm _)
  exact (List.Perm.nodup_iff (p.map _)).mpr h
def spAll : Nat → Sp
  | 0 => fun _ _ _ _ => False
  | k + 1 => fun vs H Q _ => ∃ (v : V) (w : W), vs = [v] ∧ Wk H v w ∧ w.dp ≤ k + 1 ∧ w.nms.length ≤ 1000 ∧ ∀ L xs H', H' L = some (.lst xs) → NmL H' xs w.nms → H L = none → L2.Same H H' → Q (.ref L) H'
theorem ok_all {f : Addr} {fd : FuncData} {k : Nat} (D : Df K mg "_law_all" ["_law_opus"] sAll f fd) (T : Txt mg) (cAl : Ca P w K mg base (k + 1) "_law_all" ["_law_opus"] (spAll k)) : FnOk P w K mg base CX0 (k + 2) f fd ["_law_opus"] (spAll (k + 1)) := by
  refine D.fn.ok scAll (fun vs H Q E h => ?_) (fun cdv A outer s H vs Q E hr h => ?_)
  · obtain ⟨v, w, rfl, wk, hd, hl, q⟩ := h
    rfl
  · obtain ⟨v, w, rfl, wk, hd, hl, q⟩ := h
    refine ⟨_, (pss_cons (ps_set (i := 1) scAll.nd rfl (.inl rfl) (pe_lst (pa_cons (pe_ix ix_tup (pv 0) pe_int (fun _ _ => rfl)) pa_nil)))
      (pss_cons (ps_for PassesOwn.never rfl (pi_tup (pe_ix ix_tup (pv 0) pe_int (fun _ _ => rfl))) (pg_name (i := 2) scAll.nd rfl (.inl rfl)) (pss_one (ps_expr (pe_bm PySem.F.plainAttrs_list PySem.F.slot_list_extend PySem.F.type_list_extend mt_extend (pv 1) (pa_cons (pe_ca cAl hr (by omega) (by rfl) (pa_cons (pv 2) pa_nil)) pa_nil)))))
      (pss_one (ps_ret (pv 1))))), ?_⟩
    cases wk with
    | @mk t p v0 nm xs ps e1 nv e2 wl =>
    rw [W.dp] at hd
    rw [W.nms, List.length_cons] at hl
    refine ⟨_, rfl, t, _, 0, v0, rfl, rfl, SqT.of e1, rfl, (by show 1 ≤ sizeLine; decide), fun F nF => ?_⟩
    have sF := same_upd nF (o := .lst [v0])
    have eF : (upd H F (.lst [v0])) F = some (.lst [v0]) := upd_same
    generalize upd H F (.lst [v0]) = H1 at sF eF ⊢
    refine ⟨_, rfl, t, _, 1, .ref p, rfl, rfl, SqT.of (sF _ _ e1), rfl, p, rfl, ⟨_, SqT.of (sF _ _ e2)⟩, for_tup (K := K) (a := p) (xs := xs) (fun i σ Hx => ∃ (ys : List V) (c2 : Option V), σ = [some (.ref t), some (.ref F), c2] ∧ Hx F = some (.lst ys) ∧ NmL Hx ys (nm :: nmsL (ps.take i)) ∧ L2.Same H Hx) ?_ ?_ ?_ ?_⟩
    · exact ⟨[v0], none, rfl, eF, .cons (nv.tp (tp_same sF)) (by rw [List.take_zero, nmsL]; exact .nil), sF⟩
    · rintro i σ Hx _ ⟨ys, c2, rfl, eFx, nml, sx⟩
      exact SqT.of (sx _ _ e2)
    · rintro i x σ Hx hx ⟨ys, c2, rfl, eFx, nml, sx⟩
      obtain ⟨w', ew, wk'⟩ := wl.get hx
      have mw := List.mem_of_getElem? ew
      have dw := dpL_mem mw
      have le := nml.len
      have nle : (nm :: nmsL (ps.take i)).length ≤ 1001 := by
        have := nmsL_take i ps
        rw [List.length_cons]; omega
      have nlw := nmsL_mem mw
      have dpos := W.dp_pos w'
      obtain ⟨j, rfl⟩ : ∃ j, k = j + 1 := ⟨k - 1, by omega⟩
      refine ⟨_, rfl, .inl ⟨rfl, _, SqL.of eFx⟩, _, rfl, x, w', rfl, wk'.tp (tp_same sx), by omega, by omega, fun L2' xs2 Hy eL2 nm2 nL2 sy => ?_⟩
      have eFy := sy _ _ eFx
      refine ⟨F, L2', ys, xs2, rfl, rfl, eFy, eL2, ?_, ?_⟩
      · rw [nml.len, nm2.len]
        exact Nat.le_trans (show _ ≤ 3000 by omega) (by decide)
      have up : Tp Hy (upd Hy F (.lst (ys ++ xs2))) := tp_upd (fun us z => by rw [eFy] at z; cases z)
      refine ⟨ys ++ xs2, _, rfl, upd_same, ?_, fun b o e => ?_⟩
      · have : nm :: nmsL (ps.take (i + 1)) = (nm :: nmsL (ps.take i)) ++ w'.nms := by
          rw [List.take_succ, ew, nmsL_app]
          simp [nmsL]
        rw [this]
        exact (nml.tp ((tp_same sy).trans up)).app (nm2.tp up)
      · rw [upd_ne (ne_of_none e nF)]
        exact sy _ _ (sx _ _ e)
    · rintro σ Hx ⟨ys, c2, rfl, eFx, nml, sx⟩
      refine ⟨_, rfl, q F ys Hx eFx ?_ nF sx⟩
      rw [W.nms]
      have l := wl.len
      rw [List.take_of_length_le (by omega)] at nml
      exact nml
theorem all_fn {f : Addr} {fd : FuncData} (D : Df K mg "_law_all" ["_law_opus"] sAll f fd) (T : Txt mg) : ∀ k, FnOk P w K mg base CX0 (k + 1) f fd ["_law_opus"] (spAll k)
  | 0 => ⟨fun _ _ _ _ h => h.elim, fun _ _ _ _ _ _ _ _ _ _ _ _ _ h => h.elim⟩
  | k + 1 => ok_all D T (D.ca (all_fn D T k))
theorem fn_all {k N : Nat} {f : Addr} {fd : FuncData} {ps : List Str} {sp : Nat → Sp} (F : ∀ n, n ≤ N → FnOk P w K mg base CX0 k f fd ps (sp n)) : FnOk P w K mg base CX0 k f fd ps (fun vs H Q E => ∃ n, n ≤ N ∧ sp n vs H Q E) :=
  ⟨fun vs H Q E ⟨n, h, q⟩ => (F n h).len vs H Q E q, fun A outer s H args us vs Q E hr e0 hb hv ⟨n, h, q⟩ => (F n h).run A outer s H args us vs Q E hr e0 hb hv q⟩
end
end K44
set_option Elab.async false
set_option linter.all false
set_option maxRecDepth 100000
set_option maxHeartbeats 4000000
set_option pp.maxSteps 400
set_option pp.deepTerms false
namespace K44
open PySem PySem.Spec PyProof.Rows L2
open Xk Az W37
section
variable {P : Program} {w : World} {K : PySem.W.Frag} {mg : Str → Option Value} {base : Heap}
/-! ## leaves and spans -/
mutual
def lvs : W → List Nm
  | .mk n ps => if ps.isEmpty then [n] else lvsL ps
def lvsL : List W → List Nm
  | [] => []
  | w :: r => lvs w ++ lvsL r
end
abbrev nl (w : W) : Int := ((lvs w).length : Nat)
abbrev nlL (ws : List W) : Int := ((lvsL ws).length : Nat)
theorem nlL_cons (w : W) (r : List W) : nlL (w :: r) = nl w + nlL r := by
  show (((lvsL (w :: r)).length : Nat) : Int) = _
  rw [lvsL, List.length_append]
  push_cast
  rfl
theorem nl_mk (n : Nm) (ps : List W) : nl (.mk n ps) = if ps.isEmpty then 1 else nlL ps := by
  show (((lvs (.mk n ps)).length : Nat) : Int) = _
  rw [lvs]
  split <;> rfl
theorem nl_pos : ∀ w : W, 1 ≤ nl w
  | .mk n [] => by rw [nl_mk]; decide
  | .mk n (p :: r) => by
    rw [nl_mk]
    have := nl_pos p
    have h : (0 : Int) ≤ nlL r := Int.natCast_nonneg _
    show 1 ≤ nlL (p :: r)
    rw [nlL_cons]
    omega
theorem nlL_nonneg (ws : List W) : 0 ≤ nlL ws := Int.natCast_nonneg _
mutual
theorem nl_nms : ∀ w : W, nl w ≤ ((w.nms.length : Nat) : Int)
  | .mk n ps => by
    rw [nl_mk, W.nms, List.length_cons]
    have := nlL_nms ps
    split <;> omega
theorem nlL_nms : ∀ ws : List W, nlL ws ≤ (((nmsL ws).length : Nat) : Int)
  | [] => by show (((lvsL []).length : Nat) : Int) ≤ _; rw [lvsL]; simp
  | w :: r => by
    rw [nlL_cons, nmsL, List.length_append]
    have := nl_nms w
    have := nlL_nms r
    omega
end
abbrev Row := Nm × Int × Int
mutual
def sps : W → Int → List Row
  | .mk n ps, s => (n, s, s + nl (.mk n ps)) :: spsL ps s
def spsL : List W → Int → List Row
  | [], _ => []
  | w :: r, s => sps w s ++ spsL r (s + nl w)
end
mutual
theorem sps_nms : ∀ (w : W) (s : Int), (sps w s).map (·.1) = w.nms
  | .mk n ps, s => by rw [sps, W.nms, List.map_cons, spsL_nms ps s]
theorem spsL_nms : ∀ (ws : List W) (s : Int), (spsL ws s).map (·.1) = nmsL ws
  | [], s => by rw [spsL, nmsL]; rfl
  | w :: r, s => by rw [spsL, nmsL, List.map_append, sps_nms w s, spsL_nms r _]
end
theorem sps_len (w : W) (s : Int) : (sps w s).length = w.nms.length := by rw [← sps_nms w s, List.length_map]
theorem spsL_len (ws : List W) (s : Int) : (spsL ws s).length = (nmsL ws).length := by rw [← spsL_nms ws s, List.length_map]
mutual
theorem sps_in : ∀ (w : W) (s : Int) (r : Row), r ∈ sps w s → s ≤ r.2.1 ∧ r.2.1 < r.2.2 ∧ r.2.2 ≤ s + nl w
  | .mk n ps, s, r, h => by
    rw [sps] at h
    have p := nl_pos (.mk n ps)
    rcases List.mem_cons.mp h with z | z
    · rw [z]
      exact ⟨Int.le_refl _, by show s < s + nl (.mk n ps); omega, Int.le_refl _⟩
    · obtain ⟨a, b, c⟩ := spsL_in ps s r z
      refine ⟨a, b, ?_⟩
      rw [nl_mk]
      cases ps with
      | nil => rw [spsL] at z; cases z
      | cons x y => exact c
theorem spsL_in : ∀ (ws : List W) (s : Int) (r : Row), r ∈ spsL ws s → s ≤ r.2.1 ∧ r.2.1 < r.2.2 ∧ r.2.2 ≤ s + nlL ws
  | [], s, r, h => by rw [spsL] at h; cases h
  | w :: q, s, r, h => by
    rw [spsL] at h
    rw [nlL_cons]
    have p := nl_pos w
    have p2 := nlL_nonneg q
    rcases List.mem_append.mp h with z | z
    · obtain ⟨a, b, c⟩ := sps_in w s r z
      exact ⟨a, b, by omega⟩
    · obtain ⟨a, b, c⟩ := spsL_in q _ r z
      exact ⟨by omega, b, by omega⟩
end
def shf (d : Int) (r : Row) : Row := (r.1, r.2.1 + d, r.2.2 + d)
mutual
theorem sps_shift (d : Int) : ∀ (w : W) (s : Int), sps w (s + d) = (sps w s).map (shf d)
  | .mk n ps, s => by
    rw [sps, sps, List.map_cons, spsL_shift d ps s]
    congr 1
    show (n, s + d, s + d + nl (.mk n ps)) = (n, s + d, s + nl (.mk n ps) + d)
    rw [Int.add_right_comm]
theorem spsL_shift (d : Int) : ∀ (ws : List W) (s : Int), spsL ws (s + d) = (spsL ws s).map (shf d)
  | [], s => by rw [spsL, spsL]; rfl
  | w :: r, s => by
    rw [spsL, spsL, List.map_append, sps_shift d w s, Int.add_right_comm, spsL_shift d r _]
end
/-! ## backward -/
mutual
def bk : W → W
  | .mk n ps => .mk n (bkL ps)
def bkL : List W → List W
  | [] => []
  | w :: r => bkL r ++ [bk w]
end
theorem bkL_map : ∀ ws : List W, bkL ws = (ws.map bk).reverse
  | [] => by rw [bkL]; rfl
  | w :: r => by rw [bkL, bkL_map r, List.map_cons, List.reverse_cons]
theorem lvsL_app : ∀ xs ys : List W, lvsL (xs ++ ys) = lvsL xs ++ lvsL ys
  | [], ys => by rw [List.nil_append, lvsL, List.nil_append]
  | w :: r, ys => by rw [List.cons_append, lvsL, lvsL, lvsL_app r ys, List.append_assoc]
theorem nlL_app (xs ys : List W) : nlL (xs ++ ys) = nlL xs + nlL ys := by
  show (((lvsL (xs ++ ys)).length : Nat) : Int) = _
  rw [lvsL_app, List.length_append]
  push_cast
  rfl
theorem bkL_nil {ws : List W} : (bkL ws).isEmpty = ws.isEmpty := by
  cases ws with
  | nil => rw [bkL]
  | cons w r => rw [bkL_map]; simp
mutual
theorem nl_bk : ∀ w : W, nl (bk w) = nl w
  | .mk n ps => by
    rw [bk, nl_mk, nl_mk, nlL_bk ps, bkL_nil]
theorem nlL_bk : ∀ ws : List W, nlL (bkL ws) = nlL ws
  | [] => by rw [bkL]
  | w :: r => by
    rw [bkL, nlL_app, nlL_bk r, nlL_cons, nlL_cons, nl_bk w]
    show nlL r + (nl w + nlL []) = _
    have : nlL [] = 0 := by show (((lvsL []).length : Nat) : Int) = 0; rw [lvsL]; rfl
    omega
end
theorem spsL_app : ∀ (xs ys : List W) (s : Int), spsL (xs ++ ys) s = spsL xs s ++ spsL ys (s + nlL xs)
  | [], ys, s => by
    have : nlL [] = 0 := by show (((lvsL []).length : Nat) : Int) = 0; rw [lvsL]; rfl
    rw [List.nil_append, spsL, List.nil_append, this, Int.add_zero]
  | w :: r, ys, s => by
    rw [List.cons_append, spsL, spsL, spsL_app r ys, List.append_assoc, nlL_cons, Int.add_assoc]
/-- turned about -/
def mir (c : Int) (r : Row) : Row := (r.1, c - r.2.2, c - r.2.1)
theorem mem_shift {w : W} {s d : Int} {r : Row} (h : r ∈ sps w s) : shf d r ∈ sps w (s + d) := by
  rw [sps_shift]
  exact List.mem_map_of_mem h
theorem memL_shift {ws : List W} {s d : Int} {r : Row} (h : r ∈ spsL ws s) : shf d r ∈ spsL ws (s + d) := by
  rw [spsL_shift]
  exact List.mem_map_of_mem h
mutual
theorem sps_bk : ∀ (w : W) (s : Int) (r : Row), r ∈ sps w s → mir (2 * s + nl w) r ∈ sps (bk w) s
  | .mk n ps, s, r, h => by
    rw [sps] at h
    rw [bk, sps]
    have e : nl (.mk n (bkL ps)) = nl (.mk n ps) := by have := nl_bk (.mk n ps); rw [bk] at this; exact this
    rcases List.mem_cons.mp h with z | z
    · rw [z]
      refine List.mem_cons.mpr (.inl ?_)
      show (n, 2 * s + nl (.mk n ps) - (s + nl (.mk n ps)), 2 * s + nl (.mk n ps) - s) = (n, s, s + nl (.mk n (bkL ps)))
      rw [e]
      refine Prod.ext rfl (Prod.ext ?_ ?_)
      · show 2 * s + nl (.mk n ps) - (s + nl (.mk n ps)) = s; omega
      · show 2 * s + nl (.mk n ps) - s = s + nl (.mk n ps); omega
    · refine List.mem_cons_of_mem _ ?_
      have q := spsL_bk ps s r z
      rw [nl_mk]
      cases ps with
      | nil => rw [spsL] at z; cases z
      | cons x y => exact q
theorem spsL_bk : ∀ (ws : List W) (s : Int) (r : Row), r ∈ spsL ws s → mir (2 * s + nlL ws) r ∈ spsL (bkL ws) s
  | [], s, r, h => by rw [spsL] at h; cases h
  | w :: q, s, r, h => by
    rw [spsL] at h
    rw [bkL, spsL_app, nlL_bk, nlL_cons]
    rcases List.mem_append.mp h with z | z
    · refine List.mem_append_right _ ?_
      have a := mem_shift (d := nlL q) (sps_bk w s r z)
      rw [spsL]
      refine List.mem_append_left _ ?_
      have e : shf (nlL q) (mir (2 * s + nl w) r) = mir (2 * s + (nl w + nlL q)) r := by
        refine Prod.ext rfl (Prod.ext ?_ ?_)
        · show 2 * s + nl w - r.2.2 + nlL q = 2 * s + (nl w + nlL q) - r.2.2; omega
        · show 2 * s + nl w - r.2.1 + nlL q = 2 * s + (nl w + nlL q) - r.2.1; omega
      rw [← e]
      exact a
    · refine List.mem_append_left _ ?_
      have a := memL_shift (d := - nl w) (spsL_bk q _ r z)
      have e : shf (-nl w) (mir (2 * (s + nl w) + nlL q) r) = mir (2 * s + (nl w + nlL q)) r := by
        refine Prod.ext rfl (Prod.ext ?_ ?_)
        · show 2 * (s + nl w) + nlL q - r.2.2 + -nl w = 2 * s + (nl w + nlL q) - r.2.2; omega
        · show 2 * (s + nl w) + nlL q - r.2.1 + -nl w = 2 * s + (nl w + nlL q) - r.2.1; omega
      rw [← e]
      have e2 : s + nl w + -nl w = s := by omega
      rw [e2] at a
      exact a
end
mutual
theorem bk_nms : ∀ w : W, (bk w).nms.Perm w.nms
  | .mk n ps => by
    rw [bk, W.nms, W.nms]
    exact List.Perm.cons n (bkL_nms ps)
theorem bkL_nms : ∀ ws : List W, (nmsL (bkL ws)).Perm (nmsL ws)
  | [] => by rw [bkL]
  | w :: r => by
    rw [bkL, nmsL_app, nmsL, nmsL, nmsL, List.append_nil]
    exact (List.Perm.append (bkL_nms r) (bk_nms w)).trans List.perm_append_comm
end
mutual
theorem bk_dp : ∀ w : W, (bk w).dp = w.dp
  | .mk n ps => by rw [bk, W.dp, W.dp, bkL_dp ps]
theorem bkL_dp : ∀ ws : List W, dpL (bkL ws) = dpL ws
  | [] => by rw [bkL]
  | w :: r => by
    have app : ∀ xs ys : List W, dpL (xs ++ ys) = max (dpL xs) (dpL ys) := fun xs ys => by
      induction xs with
      | nil => rw [List.nil_append, dpL]; omega
      | cons x q ih => rw [List.cons_append, dpL, dpL, ih]; omega
    rw [bkL, app, dpL, dpL, dpL, bkL_dp r, bk_dp w]
    omega
end
/-- where a name's leaves stand -/
def spn (w : W) (m : Nm) : Option (Int × Int) := ((sps w 0).find? fun r => decide (r.1 = m)).map (·.2)
theorem spn_some {w : W} {m : Nm} {s : Int × Int} (h : spn w m = some s) : (m, s) ∈ sps w 0 := by
  unfold spn at h
  obtain ⟨r, e, rfl⟩ := Option.map_eq_some_iff.mp h
  have p := List.find?_some e
  have q := of_decide_eq_true p
  rw [← q]
  exact List.mem_of_find?_eq_some e
theorem mem_uniq {l : List Row} (nd : (l.map (·.1)).Nodup) {a b : Row} (ha : a ∈ l) (hb : b ∈ l) (e : a.1 = b.1) : a = b := by
  induction l with
  | nil => cases ha
  | cons x r ih =>
    rw [List.map_cons, List.nodup_cons] at nd
    rcases List.mem_cons.mp ha with za | za
    · rcases List.mem_cons.mp hb with zb | zb
      · rw [za, zb]
      · exact absurd (by rw [← za, e]; exact List.mem_map_of_mem zb) nd.1
    · rcases List.mem_cons.mp hb with zb | zb
      · exact absurd (by rw [← zb, ← e]; exact List.mem_map_of_mem za) nd.1
      · exact ih nd.2 za zb
theorem spn_of {w : W} (nd : w.nms.Nodup) {m : Nm} {s : Int × Int} (h : (m, s) ∈ sps w 0) : spn w m = some s := by
  unfold spn
  cases e : (sps w 0).find? fun r => decide (r.1 = m) with
  | none =>
    have := List.find?_eq_none.mp e _ h
    simp at this
  | some r =>
    have p : r.1 = m := by have := List.find?_some e; exact of_decide_eq_true this
    have q := mem_uniq (by rw [sps_nms]; exact nd) (List.mem_of_find?_eq_some e) h p
    rw [q]
    rfl
theorem spn_in {w : W} {m : Nm} {s : Int × Int} (h : spn w m = some s) : 0 ≤ s.1 ∧ s.1 < s.2 ∧ s.2 ≤ nl w := by
  have := sps_in w 0 _ (spn_some h)
  obtain ⟨a, b, c⟩ := this
  exact ⟨a, b, by simpa using c⟩
def mr (c : Int) (s : Int × Int) : Int × Int := (c - s.2, c - s.1)
theorem spn_bk {w : W} (nd : w.nms.Nodup) (m : Nm) : spn (bk w) m = (spn w m).map (mr (nl w)) := by
  have nd2 : (bk w).nms.Nodup := (List.Perm.nodup_iff (bk_nms w)).mpr nd
  cases e : spn w m with
  | some s =>
    have h := sps_bk w 0 _ (spn_some e)
    have e2 : mir (2 * 0 + nl w) (m, s) = (m, mr (nl w) s) := by
      unfold mir mr
      rw [show (2 * 0 + nl w : Int) = nl w by omega]
    rw [e2] at h
    exact spn_of nd2 h
  | none =>
    cases e3 : spn (bk w) m with
    | none => rfl
    | some s =>
      have h := spn_some e3
      have hm : m ∈ (bk w).nms := by rw [← sps_nms (bk w) 0]; exact List.mem_map_of_mem (f := (·.1)) h
      have hm2 : m ∈ w.nms := (bk_nms w).mem_iff.mp hm
      rw [← sps_nms w 0] at hm2
      obtain ⟨r, hr, er⟩ := List.mem_map.mp hm2
      have : spn w m = some r.2 := spn_of nd (by rw [← er]; exact hr)
      rw [e] at this
      cases this
end
end K44
set_option Elab.async false
set_option linter.all false
set_option maxRecDepth 100000
set_option maxHeartbeats 4000000
set_option pp.maxSteps 400
set_option pp.deepTerms false
namespace K44
open PySem PySem.Spec PyProof.Rows L2
open Xk Az W37
section
variable {P : Program} {w : World} {K : PySem.W.Frag} {mg : Str → Option Value} {base : Heap}
/-! ## choices -/
abbrev S2 := Int × Int
def Ah (a b : S2) : Prop := a.2 ≤ b.1
abbrev Ch (l : List S2) : Prop := l.Pairwise Ah
def vl : List S2 → Int
  | [] => 0
  | s :: r => (s.2 - s.1) + vl r
theorem vl_app : ∀ a b : List S2, vl (a ++ b) = vl a + vl b
  | [], b => by show vl b = 0 + vl b; omega
  | s :: r, b => by
    show (s.2 - s.1) + vl (r ++ b) = (s.2 - s.1) + vl r + vl b
    rw [vl_app r b]
    omega
theorem vl_rev : ∀ a : List S2, vl a.reverse = vl a
  | [] => rfl
  | s :: r => by
    rw [List.reverse_cons, vl_app, vl_rev r]
    show vl r + ((s.2 - s.1) + 0) = (s.2 - s.1) + vl r
    omega
theorem vl_mr (c : Int) : ∀ a : List S2, vl (a.map (mr c)) = vl a
  | [] => rfl
  | s :: r => by
    show (c - s.1 - (c - s.2)) + vl (r.map (mr c)) = (s.2 - s.1) + vl r
    rw [vl_mr c r]
    omega
abbrev Spl := List (Option S2)
def told (S : Spl) : List S2 := S.filterMap id
/-- all spans are not empty -/
def Pos (S : Spl) : Prop := ∀ s, some s ∈ S → 0 ≤ s.1 ∧ s.1 < s.2
theorem vl_pos {l : List S2} (h : ∀ s ∈ l, s.1 < s.2) : 0 ≤ vl l := by
  induction l with
  | nil => exact Int.le_refl _
  | cons s r ih =>
    have := h s List.mem_cons_self
    have := ih fun t ht => h t (List.mem_cons_of_mem _ ht)
    show 0 ≤ (s.2 - s.1) + vl r
    omega
/-- the most -/
structure Most (S : Spl) (m : Int) : Prop where
  ex : ∃ l, l.Sublist (told S) ∧ Ch l ∧ vl l = m
  top : ∀ l, l.Sublist (told S) → Ch l → vl l ≤ m
theorem Most.uniq {S : Spl} {m n : Int} (a : Most S m) (b : Most S n) : m = n := by
  obtain ⟨l, h1, h2, e1⟩ := a.ex
  obtain ⟨k, h3, h4, e2⟩ := b.ex
  have x := a.top k h3 h4
  have y := b.top l h1 h2
  omega
theorem Most.sub {S T : Spl} {m n : Int} (a : Most S m) (b : Most T n) (h : (told S).Sublist (told T)) : m ≤ n := by
  obtain ⟨l, h1, h2, e1⟩ := a.ex
  have := b.top l (h1.trans h) h2
  omega
theorem told_sub {S T : Spl} (h : S.Sublist T) : (told S).Sublist (told T) := h.filterMap id
/-- turned about -/
def mrS (c : Int) (S : Spl) : Spl := (S.map (Option.map (mr c))).reverse
theorem told_mr (c : Int) (S : Spl) : told (mrS c S) = ((told S).map (mr c)).reverse := by
  unfold told mrS
  rw [List.filterMap_reverse]
  congr 1
  induction S with
  | nil => rfl
  | cons o r ih =>
    cases o with
    | none => simpa using ih
    | some s => simpa using ih
theorem mr_mr (c : Int) (s : S2) : mr c (mr c s) = s := by
  unfold mr
  exact Prod.ext (by show c - (c - s.1) = s.1; omega) (by show c - (c - s.2) = s.2; omega)
theorem ch_mr {c : Int} {l : List S2} (h : Ch l) : Ch (l.map (mr c)).reverse := by
  rw [Ch, List.pairwise_reverse, List.pairwise_map]
  refine h.imp fun {a b} hab => ?_
  show c - b.1 ≤ c - a.2
  have : a.2 ≤ b.1 := hab
  omega
theorem Most.mr {S : Spl} {m : Int} (c : Int) (a : Most S m) : Most (mrS c S) m := by
  obtain ⟨l, h1, h2, e1⟩ := a.ex
  refine ⟨⟨(l.map (K44.mr c)).reverse, ?_, ch_mr h2, by rw [vl_rev, vl_mr]; exact e1⟩, fun k h3 h4 => ?_⟩
  · rw [told_mr]
    exact (h1.map _).reverse
  · rw [told_mr] at h3
    have h5 := (h3.reverse.map (K44.mr c))
    rw [List.reverse_reverse, List.map_map] at h5
    have e : ((K44.mr c) ∘ (K44.mr c)) = id := funext fun s => mr_mr c s
    rw [e, List.map_id] at h5
    have := a.top _ h5 (by
      have := ch_mr (c := c) h4
      rw [← List.map_reverse] at this
      exact this)
    rw [vl_mr, vl_rev] at this
    exact this
/-! choices by numbers -/
inductive Pk (S : Spl) : Nat → List Nat → List S2 → Prop
  | nil (k : Nat) : Pk S k [] []
  | cons {k i : Nat} {is : List Nat} {s : S2} {l : List S2} : k ≤ i → S[i]? = some (some s) → Pk S (i + 1) is l → Pk S k (i :: is) (s :: l)
theorem told_drop {S : Spl} {k : Nat} {s : S2} (h : S[k]? = some (some s)) : told (S.drop k) = s :: told (S.drop (k + 1)) := by
  obtain ⟨lt, e⟩ := List.getElem?_eq_some_iff.mp h
  rw [List.drop_eq_getElem_cons lt, e]
  rfl
theorem drop_sub (S : Spl) {i k : Nat} (h : k ≤ i) : (S.drop i).Sublist (S.drop k) := by
  have e : S.drop i = (S.drop k).drop (i - k) := by rw [List.drop_drop]; congr 1; omega
  rw [e]
  exact List.drop_sublist _ _
theorem Pk.mono {S : Spl} {k k' : Nat} (hk : k' ≤ k) : ∀ {is : List Nat} {l : List S2}, Pk S k is l → Pk S k' is l
  | _, _, .nil _ => .nil _
  | _, _, .cons h e r => .cons (Nat.le_trans hk h) e r
theorem Pk.sub {S : Spl} : ∀ {k : Nat} {is : List Nat} {l : List S2}, Pk S k is l → l.Sublist (told (S.drop k))
  | _, _, _, .nil _ => List.nil_sublist _
  | k, _, _, .cons (i := i) (s := s) h e r => by
    have a := r.sub
    have b := List.Sublist.cons_cons s a
    rw [← told_drop e] at b
    exact b.trans (told_sub (drop_sub S h))
theorem Pk.ge {S : Spl} : ∀ {k : Nat} {is : List Nat} {l : List S2}, Pk S k is l → ∀ i ∈ is, k ≤ i ∧ ∃ s, S[i]? = some (some s) ∧ s ∈ l
  | _, _, _, .nil _, i, hi => by cases hi
  | k, _, _, .cons (i := j) h e r, i, hi => by
    rcases List.mem_cons.mp hi with z | z
    · rw [z]; exact ⟨h, _, e, List.mem_cons_self⟩
    · obtain ⟨a, s, b, c⟩ := r.ge i z
      exact ⟨by omega, s, b, List.mem_cons_of_mem _ c⟩
theorem Pk.rise {S : Spl} : ∀ {k : Nat} {is : List Nat} {l : List S2}, Pk S k is l → is.Pairwise (· < ·)
  | _, _, _, .nil _ => .nil
  | _, _, _, .cons h e r => .cons (fun i hi => by have := (r.ge i hi).1; omega) r.rise
theorem Pk.of {S : Spl} : ∀ (n k : Nat) (l : List S2), S.length - k = n → l.Sublist (told (S.drop k)) → ∃ is, Pk S k is l
  | 0, k, l, hn, h => by
    rw [List.drop_of_length_le (by omega)] at h
    have : l = [] := List.sublist_nil.mp h
    rw [this]
    exact ⟨[], .nil _⟩
  | n + 1, k, l, hn, h => by
    have lt : k < S.length := by omega
    cases e : S[k] with
    | none =>
      have e2 : told (S.drop k) = told (S.drop (k + 1)) := by rw [List.drop_eq_getElem_cons lt, e]; rfl
      rw [e2] at h
      obtain ⟨is, p⟩ := Pk.of n (k + 1) l (by omega) h
      exact ⟨is, p.mono (by omega)⟩
    | some s =>
      have e1 : S[k]? = some (some s) := by rw [List.getElem?_eq_getElem lt, e]
      rw [told_drop e1] at h
      cases h with
      | cons _ h =>
        obtain ⟨is, p⟩ := Pk.of n (k + 1) l (by omega) h
        exact ⟨is, p.mono (by omega)⟩
      | cons_cons _ h =>
        obtain ⟨is, p⟩ := Pk.of n (k + 1) _ (by omega) h
        exact ⟨k :: is, .cons (Nat.le_refl _) e1 p⟩
/-! the order of rows of numbers -/
abbrev toI (is : List Nat) : List Int := is.map fun n : Nat => (n : Int)
theorem lx_tri : ∀ a b : List Int, a < b ∨ a = b ∨ b < a
  | [], [] => .inr (.inl rfl)
  | [], _ :: _ => .inl (List.nil_lt_cons _ _)
  | _ :: _, [] => .inr (.inr (List.nil_lt_cons _ _))
  | x :: a, y :: b => by
    rcases Int.lt_trichotomy x y with h | h | h
    · exact .inl (List.cons_lt_cons_iff.mpr (.inl h))
    · rcases lx_tri a b with q | q | q
      · exact .inl (List.cons_lt_cons_iff.mpr (.inr ⟨h, q⟩))
      · exact .inr (.inl (by rw [h, q]))
      · exact .inr (.inr (List.cons_lt_cons_iff.mpr (.inr ⟨h.symm, q⟩)))
    · exact .inr (.inr (List.cons_lt_cons_iff.mpr (.inl h)))
theorem lx_no {a b c : List Int} (h : a < c) (h1 : ¬ a < b) (h2 : ¬ b < c) : False := by
  rcases lx_tri b c with q | q | q
  · exact h2 q
  · rw [q] at h1; exact h1 h
  · exact h1 (List.lt_trans h q)
theorem toI_inj {a b : List Nat} (h : toI a = toI b) : a = b := by
  induction a generalizing b with
  | nil => cases b with
    | nil => rfl
    | cons y b => cases h
  | cons x a ih => cases b with
    | nil => cases h
    | cons y b =>
      injection h with h1 h2
      have h1 : (x : Int) = (y : Int) := h1
      rw [ih h2, show x = y by omega]
theorem lx_uniq {a b : List Nat} (h1 : ¬ toI a < toI b) (h2 : ¬ toI b < toI a) : a = b := by
  rcases lx_tri (toI a) (toI b) with q | q | q
  · exact absurd q h1
  · exact toI_inj q
  · exact absurd q h2
theorem Pk.same {S : Spl} : ∀ {k : Nat} {is : List Nat} {l l' : List S2}, Pk S k is l → Pk S k is l' → l = l'
  | _, _, _, _, .nil _, .nil _ => rfl
  | _, _, _, _, .cons _ e r, .cons _ e' r' => by
    rw [e] at e'
    cases e'
    rw [r.same r']
/-- no choice of as many leaves is less -/
def Lst (S : Spl) (k : Nat) (m : Int) (is : List Nat) : Prop := ∀ is' l, Pk S k is' l → Ch l → vl l = m → ¬ toI is' < toI is
/-- the best of the choices that begin with number j -/
structure Best (S : Spl) (j : Nat) (m : Int) (is : List Nat) : Prop where
  ex : ∃ l, Pk S j is l ∧ Ch l ∧ vl l = m
  hd : ∃ r, is = j :: r
  top : ∀ is' l, Pk S j (j :: is') l → Ch l → vl l ≤ m
  lst : ∀ is' l, Pk S j (j :: is') l → Ch l → vl l = m → ¬ toI (j :: is') < toI is
/-- the best of those that begin at k or behind, ahead of which a span stands -/
theorem best_step {S : Spl} {j : Nat} {s : S2} (ps : Pos S) (e : S[j]? = some (some s)) {m : Int} {is : List Nat} (hm : 0 ≤ m)
    (ex : (m = 0 ∧ is = []) ∨ ∃ i s', j < i ∧ S[i]? = some (some s') ∧ Ah s s' ∧ Best S i m is)
    (top : ∀ i s' m' is', j < i → S[i]? = some (some s') → Ah s s' → Best S i m' is' → m' ≤ m) (all : ∀ i s', j < i → S[i]? = some (some s') → ∃ m' is', Best S i m' is')
    (hl0 : m = 0 → ¬ ([] : List Int) < toI is) (hl : ∀ i s' is', j < i → S[i]? = some (some s') → Ah s s' → Best S i m is' → ¬ toI is' < toI is) : Best S j ((s.2 - s.1) + m) (j :: is) := by
  refine ⟨?_, ⟨is, rfl⟩, fun is' l p c => ?_, fun is' l p c v hlt => ?_⟩
  · rcases ex with ⟨rfl, rfl⟩ | ⟨i, s', ji, e', a, b⟩
    · exact ⟨[s], .cons (Nat.le_refl _) e (.nil _), List.pairwise_singleton _ _, by show (s.2 - s.1) + 0 = _; rfl⟩
    · obtain ⟨l, p, c, v⟩ := b.ex
      obtain ⟨r, rfl⟩ := b.hd
      refine ⟨s :: l, .cons (Nat.le_refl _) e (p.mono (by omega)), ?_, by show (s.2 - s.1) + vl l = _; rw [v]⟩
      cases p with
      | @cons _ _ _ t l2 _ e3 p2 =>
        rw [e'] at e3
        cases e3
        refine .cons (fun t ht => ?_) c
        rcases List.mem_cons.mp ht with z | z
        · rw [z]; exact a
        · have h1 := (List.pairwise_cons.mp c).1 t z
          have h2 := (ps s' (List.mem_of_getElem? e')).2
          have a : s.2 ≤ s'.1 := a
          have h1 : s'.2 ≤ t.1 := h1
          show s.2 ≤ t.1
          omega
  · cases p with
    | @cons _ _ _ t l2 _ e3 p2 =>
      rw [e] at e3
      cases e3
      show (s.2 - s.1) + vl l2 ≤ _
      cases p2 with
      | nil => show (s.2 - s.1) + 0 ≤ _; omega
      | @cons _ i _ s' l3 h4 e4 p4 =>
        obtain ⟨m', is3, b⟩ := all i s' (by omega) e4
        have c2 := (List.pairwise_cons.mp c)
        have v1 := b.top _ _ (.cons (Nat.le_refl _) e4 p4) c2.2
        have v2 := top i s' m' is3 (by omega) e4 (c2.1 s' List.mem_cons_self) b
        omega
  · have hlt : toI is' < toI is := by
      rcases List.cons_lt_cons_iff.mp hlt with z | ⟨_, z⟩
      · exact absurd z (Int.lt_irrefl _)
      · exact z
    cases p with
    | @cons _ _ _ t l2 _ e3 p2 =>
      rw [e] at e3
      cases e3
      have v : (s.2 - s.1) + vl l2 = (s.2 - s.1) + m := v
      cases p2 with
      | nil =>
        have v : (s.2 - s.1) + 0 = (s.2 - s.1) + m := v
        exact hl0 (by omega) hlt
      | @cons _ i is'' s' l3 h4 e4 p4 =>
        obtain ⟨m', is3, b⟩ := all i s' (by omega) e4
        have c2 := (List.pairwise_cons.mp c)
        have v1 := b.top _ _ (.cons (Nat.le_refl _) e4 p4) c2.2
        have v2 := top i s' m' is3 (by omega) e4 (c2.1 s' List.mem_cons_self) b
        have em : m' = m := by omega
        subst em
        exact lx_no hlt (b.lst _ _ (.cons (Nat.le_refl _) e4 p4) c2.2 (by omega)) (hl i s' is3 (by omega) e4 (c2.1 s' List.mem_cons_self) b)
/-- the best of all -/
theorem most_of {S : Spl} {m : Int} {is : List Nat} (hm : 0 ≤ m) (ex : (m = 0 ∧ is = []) ∨ ∃ i, Best S i m is) (top : ∀ i m' is', Best S i m' is' → m' ≤ m) (all : ∀ i s', S[i]? = some (some s') → ∃ m' is', Best S i m' is')
    (hl0 : m = 0 → ¬ ([] : List Int) < toI is) (hl : ∀ i is', Best S i m is' → ¬ toI is' < toI is) :
    (Most S m ∧ ∃ l, Pk S 0 is l ∧ Ch l ∧ vl l = m) ∧ Lst S 0 m is := by
  refine ⟨?_, fun is' l p c v hlt => ?_⟩
  rotate_left
  · cases p with
    | nil =>
      have v : (0 : Int) = m := v
      exact hl0 v.symm hlt
    | @cons _ i is'' s' l3 h4 e4 p4 =>
      obtain ⟨m', is3, b⟩ := all i s' e4
      have v1 := b.top _ _ (.cons (Nat.le_refl _) e4 p4) c
      have v2 := top i m' is3 b
      have em : m' = m := by omega
      subst em
      exact lx_no hlt (b.lst _ _ (.cons (Nat.le_refl _) e4 p4) c (by omega)) (hl i is3 b)
  have h : ∃ l, Pk S 0 is l ∧ Ch l ∧ vl l = m := by
    rcases ex with ⟨rfl, rfl⟩ | ⟨i, b⟩
    · exact ⟨[], .nil _, .nil, rfl⟩
    · obtain ⟨l, p, c, v⟩ := b.ex
      exact ⟨l, p.mono (by omega), c, v⟩
  refine ⟨⟨?_, fun l hl c => ?_⟩, h⟩
  · obtain ⟨l, p, c, v⟩ := h
    exact ⟨l, by have := p.sub; rwa [List.drop_zero] at this, c, v⟩
  · obtain ⟨is', p⟩ := Pk.of (S := S) _ 0 l rfl (by rwa [List.drop_zero])
    cases p with
    | nil => exact hm
    | @cons _ i _ s' l3 h4 e4 p4 =>
      obtain ⟨m', is3, b⟩ := all i s' e4
      have v1 := b.top _ _ (.cons (Nat.le_refl _) e4 p4) c
      have v2 := top i m' is3 b
      omega
/-! ## heights -/
def mx0 : List Int → Int
  | [] => 0
  | n :: r => r.foldl max n
theorem fold_max_le (n : Int) : ∀ (r : List Int), (∀ x ∈ n :: r, x ≤ r.foldl max n) ∧ r.foldl max n ∈ n :: r
  | [] => ⟨fun x hx => by rw [List.mem_singleton.mp hx]; exact Int.le_refl _, List.mem_singleton.mpr rfl⟩
  | y :: r => by
    obtain ⟨a, b⟩ := fold_max_le (max n y) r
    rw [List.foldl_cons]
    refine ⟨fun x hx => ?_, ?_⟩
    · have h0 := a (max n y) List.mem_cons_self
      rcases List.mem_cons.mp hx with z | z
      · rw [z]; omega
      · rcases List.mem_cons.mp z with z | z
        · rw [z]; omega
        · exact a x (List.mem_cons_of_mem _ z)
    · rcases List.mem_cons.mp b with z | z
      · rw [z]
        by_cases h : n ≤ y
        · rw [Int.max_eq_right h]; exact List.mem_cons_of_mem _ List.mem_cons_self
        · rw [Int.max_eq_left (by omega)]; exact List.mem_cons_self
      · exact List.mem_cons_of_mem _ (List.mem_cons_of_mem _ z)
theorem mx0_ge {l : List Int} {x : Int} (h : x ∈ l) : x ≤ mx0 l := by
  cases l with
  | nil => cases h
  | cons n r => exact (fold_max_le n r).1 x h
theorem mx0_mem (l : List Int) : (l = [] ∧ mx0 l = 0) ∨ mx0 l ∈ l := by
  cases l with
  | nil => exact .inl ⟨rfl, rfl⟩
  | cons n r => exact .inr (fold_max_le n r).2
/-- the heights of those ahead -/
def bl1 (S : Spl) (p : List Int) (s : S2) (a : Nat) : Option Int := match S[a]? with
  | some (some r) => if r.2 ≤ s.1 then p[a]? else none
  | _ => none
def below (S : Spl) (p : List Int) (s : S2) (i : Nat) : List Int := (List.range i).filterMap (bl1 S p s)
def lh (S : Spl) (p : List Int) (s : S2) (i : Nat) : Int := (s.2 - s.1) + mx0 (below S p s i)
theorem mem_below {S : Spl} {p : List Int} {s : S2} {i : Nat} {x : Int} : x ∈ below S p s i ↔ ∃ a r, a < i ∧ S[a]? = some (some r) ∧ Ah r s ∧ p[a]? = some x := by
  unfold below
  rw [List.mem_filterMap]
  constructor
  · rintro ⟨a, ha, e⟩
    rw [List.mem_range] at ha
    unfold bl1 at e
    split at e
    · rename_i r q
      split at e
      · rename_i c
        exact ⟨a, r, ha, q, c, e⟩
      · cases e
    · cases e
  · rintro ⟨a, r, ha, q, c, e⟩
    refine ⟨a, List.mem_range.mpr ha, ?_⟩
    unfold bl1
    rw [q]
    show (if r.2 ≤ s.1 then p[a]? else none) = _
    have c : r.2 ≤ s.1 := c
    rw [if_pos c]
    exact e
theorem fm_congr {α β : Type} {f g : α → Option β} : ∀ {l : List α}, (∀ a ∈ l, f a = g a) → l.filterMap f = l.filterMap g
  | [], _ => rfl
  | a :: r, h => by
    rw [List.filterMap_cons, List.filterMap_cons, h a List.mem_cons_self, fm_congr fun b hb => h b (List.mem_cons_of_mem _ hb)]
theorem below_take {S : Spl} {p : List Int} {s : S2} {i k : Nat} (h : i ≤ k) : below S (p.take k) s i = below S p s i := by
  unfold below
  refine fm_congr fun a ha => ?_
  rw [List.mem_range] at ha
  unfold bl1
  rw [List.getElem?_take, if_pos (by omega)]
/-- whether heights show that no more than n come -/
def smB (S : Spl) (n : Int) (p : List Int) : Bool := p.all (fun h => decide (0 ≤ h) && decide (h ≤ n)) && (List.range S.length).all fun i => match S[i]? with
  | some (some s) => decide (lh S p s i ≤ p.getD i 0)
  | _ => true
theorem smB_iff {S : Spl} {n : Int} {p : List Int} : smB S n p = true ↔ (∀ h ∈ p, 0 ≤ h ∧ h ≤ n) ∧ ∀ i s, S[i]? = some (some s) → lh S p s i ≤ p.getD i 0 := by
  unfold smB
  rw [Bool.and_eq_true, List.all_eq_true, List.all_eq_true]
  constructor
  · rintro ⟨a, b⟩
    refine ⟨fun h hh => by simpa using a h hh, fun i s e => ?_⟩
    have := b i (List.mem_range.mpr (List.getElem?_eq_some_iff.mp e).1)
    rw [e] at this
    exact of_decide_eq_true this
  · rintro ⟨a, b⟩
    refine ⟨fun h hh => by simpa using a h hh, fun i hi => ?_⟩
    split
    · rename_i s e
      exact decide_eq_true (b i s e)
    · rfl
/-- heights that show it are no lower than any choice -/
theorem show_chain {S : Spl} {n : Int} {p : List Int} (ps : Pos S) (pl : p.length = S.length) (h : smB S n p = true) {m : Int} (M : Most S m) : m ≤ n ∨ told S = [] := by
  obtain ⟨ha, hb⟩ := smB_iff.mp h
  -- a choice read from behind
  have key : ∀ (l : List S2) (k : Nat) (is : List Nat), Pk S k is l → Ch l → ∀ x : S2, ∀ i, S[i]? = some (some x) → i < k → (∀ y ∈ l, Ah x y) → vl l + p.getD i 0 ≤ n := by
    intro l
    induction l with
    | nil =>
      intro k is q c x i e ik ax
      have hi := (List.getElem?_eq_some_iff.mp e).1
      have := ha (p.getD i 0) (by rw [List.getD_eq_getElem?_getD, List.getElem?_eq_getElem (by omega)]; exact List.getElem_mem _)
      show 0 + p.getD i 0 ≤ n
      omega
    | cons s r ih =>
      intro k is q c x i e ik ax
      cases q with
      | @cons _ j js _ _ kj e2 q2 =>
        have hj := (List.getElem?_eq_some_iff.mp e2).1
        have c2 := List.pairwise_cons.mp c
        have h1 := ih (j + 1) js q2 c2.2 s j e2 (by omega) c2.1
        have h2 := hb j s e2
        have h3 : p.getD i 0 ≤ mx0 (below S p s j) := mx0_ge (mem_below.mpr ⟨i, x, by omega, e, ax s List.mem_cons_self, by
          have hi := (List.getElem?_eq_some_iff.mp e).1
          rw [List.getD_eq_getElem?_getD, List.getElem?_eq_getElem (by omega)]; rfl⟩)
        unfold lh at h2
        show (s.2 - s.1) + vl r + p.getD i 0 ≤ n
        omega
  by_cases ht : told S = []
  · exact .inr ht
  refine .inl ?_
  obtain ⟨l, sl, c, v⟩ := M.ex
  obtain ⟨is, q⟩ := Pk.of (S := S) _ 0 l rfl (by rwa [List.drop_zero])
  cases q with
  | nil =>
    -- the empty choice: some span stands, and its height is no less than nought
    obtain ⟨x, hx⟩ := List.exists_mem_of_ne_nil _ ht
    obtain ⟨o, ho, rfl⟩ := List.mem_filterMap.mp hx
    obtain ⟨i, hi⟩ := List.getElem?_of_mem ho
    have lt := (List.getElem?_eq_some_iff.mp hi).1
    have := ha (p.getD i 0) (by rw [List.getD_eq_getElem?_getD, List.getElem?_eq_getElem (by omega)]; exact List.getElem_mem _)
    have : vl [] = 0 := rfl
    omega
  | @cons _ i js s r _ e q2 =>
    have c2 := List.pairwise_cons.mp c
    have h1 := key r (i + 1) js q2 c2.2 s i e (by omega) c2.1
    have h2 := hb i s e
    have h3 : 0 ≤ mx0 (below S p s i) := by
      rcases mx0_mem (below S p s i) with ⟨_, z⟩ | z
      · rw [z]; exact Int.le_refl _
      · obtain ⟨a, _, _, _, _, e5⟩ := mem_below.mp z
        exact (ha _ (List.mem_of_getElem? e5)).1
    unfold lh at h2
    have : vl (s :: r) = (s.2 - s.1) + vl r := rfl
    omega
/-- the heights that are told -/
def htl (S : Spl) : Nat → List Int
  | 0 => []
  | k + 1 => htl S k ++ [match S[k]? with
    | some (some s) => lh S (htl S k) s k
    | _ => 0]
theorem htl_len (S : Spl) : ∀ k, (htl S k).length = k
  | 0 => rfl
  | k + 1 => by rw [htl, List.length_append, htl_len S k]; rfl
theorem htl_take (S : Spl) : ∀ {k n : Nat}, k ≤ n → (htl S n).take k = htl S k := by
  intro k n h
  induction n with
  | zero => have : k = 0 := by omega
            rw [this]; rfl
  | succ n ih =>
    by_cases c : k = n + 1
    · rw [c, List.take_of_length_le (by rw [htl_len]; exact Nat.le_refl _)]
    · rw [htl, List.take_append_of_le_length (by rw [htl_len]; omega)]
      exact ih (by omega)
theorem htl_at (S : Spl) {k n : Nat} (h : k < n) : (htl S n)[k]? = some (match S[k]? with
    | some (some s) => lh S (htl S k) s k
    | _ => 0) := by
  have e := htl_take S (k := k + 1) (n := n) (by omega)
  have : (htl S n)[k]? = ((htl S n).take (k + 1))[k]? := by rw [List.getElem?_take, if_pos (by omega)]
  rw [this, e, htl, List.getElem?_append_right (by rw [htl_len]; exact Nat.le_refl _), htl_len, Nat.sub_self]
  rfl
/-- a told height is what some choice has -/
theorem htl_choice {S : Spl} (ps : Pos S) {n : Nat} (hn : n = S.length) : ∀ (i : Nat) (s : S2), S[i]? = some (some s) → ∃ l, (l ++ [s]).Sublist (told (S.take (i + 1))) ∧ Ch (l ++ [s]) ∧ (htl S n)[i]? = some (vl (l ++ [s])) := by
  intro i
  induction i using Nat.strongRecOn with
  | _ i ih =>
    intro s e
    have lt := (List.getElem?_eq_some_iff.mp e).1
    have ts : told (S.take (i + 1)) = told (S.take i) ++ [s] := by
      unfold told
      rw [List.take_add_one, e, List.filterMap_append]
      rfl
    have ea := htl_at S (k := i) (n := n) (by omega)
    rw [e] at ea
    have ea : (htl S n)[i]? = some (lh S (htl S i) s i) := ea
    have eb : lh S (htl S i) s i = (s.2 - s.1) + mx0 (below S (htl S n) s i) := by
      unfold lh
      rw [← htl_take S (k := i) (n := n) (by omega), below_take (Nat.le_refl _)]
    rw [ea, eb]
    rcases mx0_mem (below S (htl S n) s i) with ⟨_, z⟩ | z
    · refine ⟨[], ?_, List.pairwise_singleton _ _, ?_⟩
      · rw [ts]
        exact List.sublist_append_right _ _
      · rw [z]
        show some ((s.2 - s.1) + 0) = some ((s.2 - s.1) + 0)
        rfl
    · obtain ⟨a, r, ai, e1, ar, e2⟩ := mem_below.mp z
      obtain ⟨l, sl, c, ev⟩ := ih a ai r e1
      rw [e2] at ev
      have ev := Option.some.inj ev
      refine ⟨l ++ [r], ?_, ?_, ?_⟩
      · rw [ts]
        refine List.Sublist.append (sl.trans (told_sub ?_)) (List.Sublist.refl _)
        have : S.take (a + 1) = (S.take i).take (a + 1) := by rw [List.take_take]; congr 1; omega
        rw [this]
        exact List.take_sublist _ _
      · rw [Ch, List.pairwise_append]
        refine ⟨c, List.pairwise_singleton _ _, fun x hx y hy => ?_⟩
        rw [List.mem_singleton.mp hy]
        rcases List.mem_append.mp hx with w | w
        · have h1 := (List.pairwise_append.mp c).2.2 x w r (List.mem_singleton.mpr rfl)
          have h2 := (ps r (List.mem_of_getElem? e1)).2
          have h1 : x.2 ≤ r.1 := h1
          have ar : r.2 ≤ s.1 := ar
          show x.2 ≤ s.1
          omega
        · rw [List.mem_singleton.mp w]; exact ar
      · rw [vl_app (l ++ [r]) [s], ev]
        show some ((s.2 - s.1) + _) = some (_ + ((s.2 - s.1) + 0))
        congr 1
        omega
theorem htl_shows {S : Spl} (ps : Pos S) {m n : Int} (M : Most S m) (hm : 0 ≤ m) (hn : m ≤ n) : smB S n (htl S S.length) = true := by
  refine smB_iff.mpr ⟨fun h hh => ?_, fun i s e => ?_⟩
  · obtain ⟨i, hi⟩ := List.getElem?_of_mem hh
    have lt := (List.getElem?_eq_some_iff.mp hi).1
    rw [htl_len] at lt
    cases e : S[i] with
    | none =>
      have ea := htl_at S lt
      rw [List.getElem?_eq_getElem lt, e] at ea
      rw [ea] at hi
      have hi : (0 : Int) = h := Option.some.inj hi
      rw [← hi]
      exact ⟨Int.le_refl _, by omega⟩
    | some s =>
      have e1 : S[i]? = some (some s) := by rw [List.getElem?_eq_getElem lt, e]
      obtain ⟨l, sl, c, ev⟩ := htl_choice ps rfl i s e1
      rw [hi] at ev
      cases ev
      have sub := sl.trans (told_sub (List.take_sublist (i + 1) S))
      have := M.top _ sub c
      refine ⟨vl_pos fun t ht => ?_, by omega⟩
      obtain ⟨o, ho, rfl⟩ := List.mem_filterMap.mp (sub.subset ht)
      exact (ps _ ho).2
  · have lt := (List.getElem?_eq_some_iff.mp e).1
    have ea := htl_at S lt
    rw [e] at ea
    have ea : (htl S S.length)[i]? = some (lh S (htl S i) s i) := ea
    rw [List.getD_eq_getElem?_getD, ea]
    show lh S (htl S S.length) s i ≤ lh S (htl S i) s i
    unfold lh
    rw [← htl_take S (k := i) (n := S.length) (by omega), below_take (Nat.le_refl _)]
    exact Int.le_refl _
end
end K44
set_option Elab.async false
set_option linter.all false
set_option maxRecDepth 100000
set_option maxHeartbeats 4000000
set_option pp.maxSteps 400
set_option pp.deepTerms false
namespace K44
open PySem PySem.Spec PyProof.Rows L2
open Xk Az W37
section
variable {P : Program} {w : World} {K : PySem.W.Frag} {mg : Str → Option Value} {base : Heap}
/-- things one by one -/
inductive Lp {α : Type} (R : V → α → Prop) : List V → List α → Prop
  | nil : Lp R [] []
  | cons {v : V} {vs : List V} {a : α} {as : List α} : R v a → Lp R vs as → Lp R (v :: vs) (a :: as)
theorem Lp.len {α : Type} {R : V → α → Prop} : ∀ {vs : List V} {as : List α}, Lp R vs as → vs.length = as.length
  | _, _, .nil => rfl
  | _, _, .cons _ r => by rw [List.length_cons, List.length_cons, r.len]
theorem Lp.map {α : Type} {R R' : V → α → Prop} (h : ∀ v a, R v a → R' v a) : ∀ {vs : List V} {as : List α}, Lp R vs as → Lp R' vs as
  | _, _, .nil => .nil
  | _, _, .cons a r => .cons (h _ _ a) (r.map h)
theorem Lp.snoc {α : Type} {R : V → α → Prop} : ∀ {vs : List V} {as : List α} {v : V} {a : α}, Lp R vs as → R v a → Lp R (vs ++ [v]) (as ++ [a])
  | _, _, _, _, .nil, h => .cons h .nil
  | _, _, _, _, .cons h r, h' => .cons h (r.snoc h')
theorem Lp.app {α : Type} {R : V → α → Prop} : ∀ {vs ws : List V} {as bs : List α}, Lp R vs as → Lp R ws bs → Lp R (vs ++ ws) (as ++ bs)
  | _, _, _, _, .nil, h => h
  | _, _, _, _, .cons h r, h' => .cons h (r.app h')
theorem Lp.get {α : Type} {R : V → α → Prop} : ∀ {vs : List V} {as : List α} {i : Nat} {v : V}, Lp R vs as → vs[i]? = some v → ∃ a, as[i]? = some a ∧ R v a
  | _, _, _, _, .nil, e => by simp at e
  | _, _, 0, _, .cons h r, e => by
    rw [List.getElem?_cons_zero] at e
    cases e
    exact ⟨_, rfl, h⟩
  | _, _, i + 1, _, .cons h r, e => by
    rw [List.getElem?_cons_succ] at e
    obtain ⟨n, e1, q⟩ := r.get e
    exact ⟨n, by rw [List.getElem?_cons_succ]; exact e1, q⟩
theorem Lp.at_ {α : Type} {R : V → α → Prop} {vs : List V} {as : List α} {i : Nat} {a : α} (h : Lp R vs as) (e : as[i]? = some a) : ∃ v, vs[i]? = some v ∧ R v a := by
  have lt := (List.getElem?_eq_some_iff.mp e).1
  have lt2 : i < vs.length := by rw [h.len]; exact lt
  obtain ⟨b, eb, r⟩ := h.get (List.getElem?_eq_getElem lt2)
  rw [e] at eb
  cases eb
  exact ⟨_, List.getElem?_eq_getElem lt2, r⟩
theorem Lp.mem {α : Type} {R : V → α → Prop} {vs : List V} {as : List α} (h : Lp R vs as) {v : V} (m : v ∈ vs) : ∃ a ∈ as, R v a := by
  obtain ⟨i, hi⟩ := List.getElem?_of_mem m
  obtain ⟨a, e, r⟩ := h.get hi
  exact ⟨a, List.mem_of_getElem? e, r⟩
theorem Lp.rev {α : Type} {R : V → α → Prop} : ∀ {vs : List V} {as : List α}, Lp R vs as → Lp R vs.reverse as.reverse
  | _, _, .nil => .nil
  | _, _, .cons h r => by rw [List.reverse_cons, List.reverse_cons]; exact r.rev.snoc h
theorem Lp.take {α : Type} {R : V → α → Prop} : ∀ {vs : List V} {as : List α} (k : Nat), Lp R vs as → Lp R (vs.take k) (as.take k)
  | _, _, 0, h => by rw [List.take_zero, List.take_zero]; exact .nil
  | _, _, _ + 1, .nil => .nil
  | _, _, k + 1, .cons h r => .cons h (r.take k)
theorem Lp.drop {α : Type} {R : V → α → Prop} : ∀ {vs : List V} {as : List α} (k : Nat), Lp R vs as → Lp R (vs.drop k) (as.drop k)
  | _, _, 0, h => h
  | _, _, _ + 1, .nil => .nil
  | _, _, k + 1, .cons h r => r.drop k
def spLv : Nat → Sp
  | 0 => fun _ _ _ _ => False
  | k + 1 => fun vs H Q _ => ∃ (v : V) (w : W), vs = [v] ∧ Wk H v w ∧ w.dp ≤ k + 1 ∧ w.nms.length ≤ 1000 ∧ ∀ (t : Addr) xs H', L2.Same H H' → H' t = some (.tup xs) → ((xs.length : Nat) : Int) = nl w → Q (.ref t) H'
def RwV (H : Hp) (v : V) (r : Row) : Prop := ∃ (t u : Addr) (nv : V), v = .ref t ∧ H t = some (.tup [nv, .ref u]) ∧ NmV H nv r.1 ∧ H u = some (.tup [.int r.2.1, .int r.2.2])
theorem RwV.tp {H H' : Hp} {v : V} {r : Row} (s : Tp H H') (h : RwV H v r) : RwV H' v r := by
  obtain ⟨t, u, nv, rfl, e1, n, e2⟩ := h
  exact ⟨t, u, nv, rfl, s _ _ e1, n.tp s, s _ _ e2⟩
def spSI : Nat → Sp
  | 0 => fun _ _ _ _ => False
  | k + 1 => fun vs H Q _ => ∃ (v : V) (w : W) (s : Int), vs = [v, .int s] ∧ Wk H v w ∧ w.dp ≤ k + 1 ∧ w.nms.length ≤ 1000 ∧ 0 ≤ s ∧ s + nl w ≤ 100000 ∧
    ∀ (L : Addr) xs H', L2.Same H H' → H L = none → H' L = some (.lst xs) → Lp (RwV H') xs (sps w s) → Q (.ref L) H'
theorem nlL_take (ps : List W) {i : Nat} {w : W} (e : ps[i]? = some w) : nlL (ps.take (i + 1)) = nlL (ps.take i) + nl w := by
  rw [List.take_add_one, e, nlL_app]
  show nlL (ps.take i) + nlL [w] = _
  rw [nlL_cons]
  have : nlL [] = 0 := by show (((lvsL []).length : Nat) : Int) = 0; rw [lvsL]; rfl
  omega
theorem nlL_le (ps : List W) (i : Nat) : nlL (ps.take i) ≤ nlL ps := by
  have e := congrArg nlL (List.take_append_drop i ps)
  rw [nlL_app] at e
  have := nlL_nonneg (ps.drop i)
  omega
theorem nlL_nil : nlL [] = 0 := by show (((lvsL []).length : Nat) : Int) = 0; rw [lvsL]; rfl
theorem ok_leaves {f : Addr} {fd : FuncData} {k : Nat} (D : Df K mg "leaves" ["work"] sLeaves f fd) (T : Txt mg) (cLv : Ca P w K mg base (k + 1) "leaves" ["work"] (spLv k)) : FnOk P w K mg base CX0 (k + 2) f fd ["work"] (spLv (k + 1)) := by
  refine D.fn.ok scLeaves (fun vs H Q E h => ?_) (fun cdv A outer s H vs Q E hr h => ?_)
  · obtain ⟨v, w, rfl, wk, hd, hl, q⟩ := h
    rfl
  · obtain ⟨v, w, rfl, wk, hd, hl, q⟩ := h
    refine ⟨_, (pss_cons (ps_asg (pv 0) (pg_tup (by rfl) (pgs_cons (pg_name (i := 1) scLeaves.nd rfl (.inl rfl)) (pgs_cons (pg_name (i := 2) scLeaves.nd rfl (.inl rfl)) pgs_nil))))
      (pss_cons (ps_if (pt_cmpR op_eq (pe_callB call_len_seq (by rfl) T.len PySem.boot_len (pa_cons (pv 2) pa_nil)) pe_int (nomark _)) (pss_one (ps_ret (pe_tup (pa_cons (pv 1) pa_nil)))) pss_nil)
      (pss_one (ps_ret (pe_callTy call_tuple_of (by rfl) T.tuple (by decide +kernel) (pa_cons (pe_lc2 (own := [("part", 3), ("leaf", 4)]) (vs1 := [4]) (g := gName 3) (g1 := gName 4) (tt := tYes) (tt1 := tYes) (wi1 := iTup K (tCall (spLv k) [] E0 (tCons (tVar 3) tNil))) (te := tVar 4) (by rfl) scLeaves.nd (pi_tup (pv 2)) (blkOk_by (own := [("part", 3), ("leaf", 4)]) (N := ["work", "name", "parts", "part", "leaf"]) (sc := defScope sLeaves) (by decide +kernel)) (by decide) (fun _ _ _ _ _ => pg_name (i := 3) scLeaves.nd rfl (.inl rfl)) (fun _ _ _ _ _ => pts_nil) (fun _ _ _ _ _ => pi_tup (pe_ca cLv hr (by omega) (by rfl) (pa_cons (pv 3) pa_nil))) (fun _ _ _ _ _ => pg_name (i := 4) scLeaves.nd rfl (.inl rfl)) (fun _ _ _ _ _ => pts_nil) (fun _ _ _ _ _ => pv 4)) pa_nil)))))), ?_⟩
    cases wk with
    | @mk t p v0 nm xs ps e1 nv e2 wl =>
    rw [W.dp] at hd
    rw [W.nms, List.length_cons] at hl
    have lx := wl.len
    refine ⟨_, rfl, t, _, rfl, SqT.of e1, rfl, _, _, rfl, _, _, rfl, rfl, ?_⟩
    refine ⟨_, rfl, p, xs, rfl, .inr (SqT.of e2), rfl, _, rfl, ite2 (fun e => ?_) (fun e => ?_)⟩
    · have x0 : xs.length = 0 := by have : ((xs.length : Nat) : Int) = 0 := by simpa [eqV] using e
                                    omega
      have p0 : ps = [] := List.eq_nil_of_length_eq_zero (by omega)
      refine ⟨_, rfl, (by show 1 ≤ sizeLine; decide), fun t1 n1 => q t1 [v0] _ (same_upd n1) upd_same ?_⟩
      rw [nl_mk, p0]
      rfl
    · have x0 : xs.length ≠ 0 := by have : ¬ ((xs.length : Nat) : Int) = 0 := by simpa [eqV] using e
                                    omega
      have pe : ps.isEmpty = false := by
        cases ps with
        | nil => exact absurd lx x0
        | cons a r => rfl
      refine ⟨_, rfl, p, rfl, ⟨_, SqT.of e2⟩, fun D nD => ?_⟩
      have nb := nlL_nms ps
      refine Xdc.goes (walk_tup (K := K) (a := p) (xs := xs)) (fun i Hi => L2.Same H Hi ∧ ∃ ys, Hi D = some (.lst ys) ∧ ((ys.length : Nat) : Int) = nlL (ps.take i)) ⟨same_upd nD, [], upd_same, by rw [List.take_zero, nlL_nil]; rfl⟩ (fun i Hi _ z => SqT.of (z.1 _ _ e2)) ?_ ?_
      · rintro i x Hi Hi' il ⟨sm, ys, eD, ly⟩ ⟨rfl, hx⟩
        obtain ⟨w', ew, wk'⟩ := wl.get hx
        have mw := List.mem_of_getElem? ew
        have dw := dpL_mem mw
        have nlw := nmsL_mem mw
        have dpos := W.dp_pos w'
        have st := nlL_take ps ew
        have sl := nlL_le ps (i + 1)
        obtain ⟨j, rfl⟩ : ∃ j, k = j + 1 := ⟨k - 1, by omega⟩
        refine ⟨rfl, ?_⟩
        refine ⟨_, rfl, x, w', rfl, wk'.tp (tp_same sm), by omega, by omega, fun t1 xs1 H1 s1 et1 lt1 => ?_⟩
        refine ⟨t1, rfl, ⟨_, SqT.of et1⟩, ?_⟩
        have eD1 := s1 _ _ eD
        refine Xdc.goes (g := gName 4) (tt := tYes) (B := fun N σ H => tVar 4 σ H fun y H7 => ∃ acc, H7 D = some (.lst acc) ∧ acc.length < sizeLine ∧ N (upd H7 D (.lst (acc ++ [y])))) (walk_tup (K := K) (a := t1) (xs := xs1)) (fun j Hj => L2.Same H Hj ∧ Hj t1 = some (.tup xs1) ∧ ∃ zs, Hj D = some (.lst zs) ∧ zs.length = ys.length + j) ⟨sm.trans s1, et1, ys, eD1, rfl⟩ (fun j Hj _ z => SqT.of z.2.1) ?_ ?_
        · rintro j y Hj Hj' jl ⟨smj, etj, zs, eLj, lz⟩ ⟨rfl, hy⟩
          refine ⟨rfl, ?_⟩
          refine ⟨_, rfl, zs, eLj, ?_, fun c o e => ?_, ?_, zs ++ [y], upd_same, by rw [List.length_append, lz]; rfl⟩
          · exact Nat.lt_of_le_of_lt (show zs.length ≤ 100000 by omega) (by decide)
          · rw [upd_ne (ne_of_none e nD)]
            exact smj _ _ e
          · rw [upd_ne (ne_of etj eLj (by intro z; cases z))]
            exact etj
        · rintro Hj ⟨smj, etj, zs, eLj, lz⟩
          exact ⟨smj, zs, eLj, by rw [lz, st]; push_cast; omega⟩
      · rintro H3 ⟨s3, ys, eD, ly⟩
        rw [List.take_of_length_le (by omega)] at ly
        refine ⟨D, _, rfl, .inl ⟨SqL.of eD, fun t1 n1 => q t1 ys _ (s3.trans (same_upd n1)) upd_same ?_⟩⟩
        rw [nl_mk, pe]
        exact ly
theorem ok_si {f : Addr} {fd : FuncData} {k : Nat} (D : Df K mg "spans_in" ["work", "start"] sSpansIn f fd) (T : Txt mg) (cSI : Ca P w K mg base (k + 1) "spans_in" ["work", "start"] (spSI k)) : FnOk P w K mg base CX0 (k + 2) f fd ["work", "start"] (spSI (k + 1)) := by
  refine D.fn.ok scSpansIn (fun vs H Q E h => ?_) (fun cdv A outer s H vs Q E hr h => ?_)
  · obtain ⟨v, w, s, rfl, wk, hd, hl, s0, s1, q⟩ := h
    rfl
  · obtain ⟨v, w, s, rfl, wk, hd, hl, s0, s1, q⟩ := h
    refine ⟨_, (pss_cons (ps_asg (pv 0) (pg_tup (by rfl) (pgs_cons (pg_name (i := 2) scSpansIn.nd rfl (.inl rfl)) (pgs_cons (pg_name (i := 3) scSpansIn.nd rfl (.inl rfl)) pgs_nil))))
      (pss_cons (ps_if (pt_cmpR op_eq (pe_callB call_len_seq (by rfl) T.len PySem.boot_len (pa_cons (pv 3) pa_nil)) pe_int (nomark _)) (pss_one (ps_ret (pe_lst (pa_cons (pe_tup (pa_cons (pv 2) (pa_cons (pe_tup (pa_cons (pv 1) (pa_cons (pe_op op_add (pv 1) pe_int) pa_nil))) pa_nil))) pa_nil)))) pss_nil)
      (pss_cons (ps_set (i := 4) scSpansIn.nd rfl (.inl rfl) (pe_lst pa_nil))
      (pss_cons (ps_set (i := 5) scSpansIn.nd rfl (.inl rfl) (pv 1))
      (pss_cons (ps_for PassesOwn.never rfl (pi_tup (pv 3)) (pg_name (i := 6) scSpansIn.nd rfl (.inl rfl)) (pss_cons (ps_set (i := 7) scSpansIn.nd rfl (.inl rfl) (pe_ca cSI hr (by omega) (by rfl) (pa_cons (pv 6) (pa_cons (pv 5) pa_nil))))
      (pss_cons (ps_expr (pe_bm PySem.F.plainAttrs_list PySem.F.slot_list_extend PySem.F.type_list_extend mt_extend (pv 4) (pa_cons (pv 7) pa_nil)))
      (pss_one (ps_set (i := 5) scSpansIn.nd rfl (.inl rfl) (pe_ix ix_tup (pe_ix ix_tup (pe_ix ix_list (pv 7) pe_int (fun _ _ => rfl)) pe_int (fun _ _ => rfl)) pe_int (fun _ _ => rfl)))))))
      (pss_one (ps_ret (pe_lst (pa_cons (pe_tup (pa_cons (pv 2) (pa_cons (pe_tup (pa_cons (pv 1) (pa_cons (pv 5) pa_nil))) pa_nil))) (Xvl.pa_starL (pv 4) pa_nil)))))))))), ?_⟩
    cases wk with
    | @mk t p v0 nm xs ps e1 nv e2 wl =>
    rw [W.dp] at hd
    rw [W.nms, List.length_cons] at hl
    have lx := wl.len
    have np := nl_pos (.mk nm ps)
    refine ⟨_, rfl, t, _, rfl, SqT.of e1, rfl, _, _, rfl, _, _, rfl, rfl, ?_⟩
    refine ⟨_, rfl, p, xs, rfl, .inr (SqT.of e2), rfl, _, rfl, ite2 (fun e => ?_) (fun e => ?_)⟩
    · have x0 : xs.length = 0 := by have : ((xs.length : Nat) : Int) = 0 := by simpa [eqV] using e
                                    omega
      have p0 : ps = [] := List.eq_nil_of_length_eq_zero (by omega)
      refine ⟨_, rfl, _, rfl, _, rfl, s, 1, rfl, rfl, (by show 2 ≤ sizeLine; decide), fun u nu => ⟨(by show 2 ≤ sizeLine; decide), fun r nr => ⟨(by show 1 ≤ sizeLine; decide), fun L nL => ?_⟩⟩⟩
      have su := same_upd nu (o := .tup [.int s, .int (s + 1)])
      have sr := same_upd nr (o := .tup [v0, .ref u])
      have sL := same_upd nL (o := .lst [.ref r])
      have s3 := (su.trans sr).trans sL
      have e1n : nl (.mk nm ps) = 1 := by rw [nl_mk, p0]; rfl
      refine q L _ _ s3 ?_ upd_same ?_
      · cases z : H L with
        | none => rfl
        | some o => rw [(su.trans sr) _ _ z] at nL; cases nL
      · rw [sps, p0, spsL, ← p0, e1n]
        exact .cons ⟨r, u, v0, rfl, sL _ _ upd_same, nv.tp (tp_same s3), sL _ _ (sr _ _ upd_same)⟩ .nil
    · have x0 : xs.length ≠ 0 := by have : ¬ ((xs.length : Nat) : Int) = 0 := by simpa [eqV] using e
                                    omega
      have pe : ps.isEmpty = false := by
        cases ps with
        | nil => exact absurd lx x0
        | cons a r => rfl
      have wn : nl (.mk nm ps) = nlL ps := by rw [nl_mk, pe]; rfl
      refine ⟨(by show 0 ≤ sizeLine; decide), fun F nF => ?_⟩
      have sF := same_upd nF (o := .lst [])
      have eF : (upd H F (.lst [])) F = some (.lst []) := upd_same
      generalize upd H F (.lst []) = H1 at sF eF ⊢
      refine ⟨_, rfl, ?_⟩
      refine ⟨_, rfl, p, rfl, ⟨_, SqT.of (sF _ _ e2)⟩, for_tup (K := K) (a := p) (xs := xs) (fun i σ Hx => ∃ (ys : List V) (c6 c7 : Option V), σ = [some (.ref t), some (.int s), some v0, some (.ref p), some (.ref F), some (.int (s + nlL (ps.take i))), c6, c7] ∧ Hx F = some (.lst ys) ∧ Lp (RwV Hx) ys (spsL (ps.take i) s) ∧ L2.Same H Hx) ?_ ?_ ?_ ?_⟩
      · refine ⟨[], none, none, ?_, eF, by rw [List.take_zero, spsL]; exact .nil, sF⟩
        rw [List.take_zero, nlL_nil, Int.add_zero]
        rfl
      · rintro i σ Hx _ ⟨ys, c6, c7, rfl, eFx, rl, sx⟩
        exact SqT.of (sx _ _ e2)
      · rintro i x σ Hx hx ⟨ys, c6, c7, rfl, eFx, rl, sx⟩
        obtain ⟨w', ew, wk'⟩ := wl.get hx
        have mw := List.mem_of_getElem? ew
        have dw := dpL_mem mw
        have le := rl.len
        have lrow := spsL_len (ps.take i) s
        have ltk := nmsL_take i ps
        have nlw := nmsL_mem mw
        have dpos := W.dp_pos w'
        have st := nlL_take ps ew
        have sl := nlL_le ps (i + 1)
        have sl0 := nlL_nonneg (ps.take i)
        obtain ⟨j, rfl⟩ : ∃ j, k = j + 1 := ⟨k - 1, by omega⟩
        refine ⟨_, rfl, _, rfl, x, w', s + nlL (ps.take i), rfl, wk'.tp (tp_same sx), by omega, by omega, by omega, by omega, fun L2' xs2 Hy sy nL2 eL2 rl2 => ?_⟩
        have l2 := rl2.len
        have l2b := sps_len w' (s + nlL (ps.take i))
        have w1 : 1 ≤ w'.nms.length := by cases w'; rw [W.nms]; simp
        have eFy := sy _ _ eFx
        have FL : L2' ≠ F := fun z => by rw [z, eFx] at nL2; cases nL2
        refine ⟨_, rfl, .inl ⟨rfl, _, SqL.of eFy⟩, _, rfl, F, L2', ys, xs2, rfl, rfl, eFy, eL2, Nat.le_trans (show ys.length + xs2.length ≤ 3000 by omega) (by decide), ?_⟩
        have up : Tp Hy (upd Hy F (.lst (ys ++ xs2))) := tp_upd (fun us z => by rw [eFy] at z; cases z)
        have sR : sps w' (s + nlL (ps.take i)) = (sps w' (s + nlL (ps.take i))).head (by intro z; rw [z] at l2b; simp at l2b; omega) :: (sps w' (s + nlL (ps.take i))).tail := (List.cons_head_tail _).symm
        have hd : ∃ r0, (sps w' (s + nlL (ps.take i)))[0]? = some r0 ∧ r0.2.2 = s + nlL (ps.take i) + nl w' := by
          cases w' with
          | mk n2 ps2 => rw [sps]; exact ⟨_, rfl, rfl⟩
        obtain ⟨r0, er0, ev0⟩ := hd
        obtain ⟨x0', ex0, t0, u0, n0, rfl, et0, _, eu0⟩ := rl2.at_ er0
        refine ⟨_, rfl, L2', xs2, 0, .ref t0, rfl, rfl, SqL.of (by rw [upd_ne FL]; exact eL2), atI_nat (j := 0) ex0, t0, _, 1, .ref u0, rfl, rfl, SqT.of (up _ _ et0), rfl, u0, _, 1, .int r0.2.2, rfl, rfl, SqT.of (up _ _ eu0), rfl, ?_⟩
        refine ⟨ys ++ xs2, some x, some (.ref L2'), ?_, upd_same, ?_, fun b o e => ?_⟩
        · rw [ev0, Int.add_assoc, ← st]
          rfl
        · have : spsL (ps.take (i + 1)) s = spsL (ps.take i) s ++ sps w' (s + nlL (ps.take i)) := by
            rw [List.take_add_one, ew, spsL_app]
            show _ ++ spsL [w'] _ = _
            rw [spsL, spsL, List.append_nil]
          rw [this]
          exact (rl.map fun v a h => h.tp ((tp_same sy).trans up)).app (rl2.map fun v a h => h.tp up)
        · rw [upd_ne (ne_of_none e nF)]
          exact sy _ _ (sx _ _ e)
      · rintro σ Hx ⟨ys, c6, c7, rfl, eFx, rl, sx⟩
        rw [List.take_of_length_le (show ps.length ≤ xs.length by omega)] at rl ⊢
        have le := rl.len
        have lrow := spsL_len ps s
        refine ⟨_, rfl, _, rfl, _, rfl, (by show 2 ≤ sizeLine; decide), fun u nu => ⟨(by show 2 ≤ sizeLine; decide), fun r nr => ?_⟩⟩
        have su := same_upd nu (o := .tup [.int s, .int (s + nlL ps)])
        have sr := same_upd nr (o := .tup [v0, .ref u])
        refine ⟨_, rfl, F, ys, rfl, SqL.of ((su.trans sr) _ _ eFx), ?_⟩
        show (V.ref r :: (ys ++ [])).length ≤ sizeLine ∧ ∀ p, (L2.upd (L2.upd Hx u (.tup [.int s, .int (s + nlL ps)])) r (.tup [v0, .ref u])) p = none → Q (.ref p) (L2.upd (L2.upd (L2.upd Hx u (.tup [.int s, .int (s + nlL ps)])) r (.tup [v0, .ref u])) p (.lst (V.ref r :: (ys ++ []))))
        rw [List.append_nil]
        refine ⟨Nat.le_trans (show _ ≤ 3000 from ?_) (by decide), fun L nL => ?_⟩
        · rw [List.length_cons]
          omega
        have sL := same_upd nL (o := .lst (V.ref r :: ys))
        have s4 := (su.trans sr).trans sL
        refine q L _ _ (sx.trans s4) ?_ upd_same ?_
        · cases z : H L with
          | none => rfl
          | some o => rw [(su.trans sr) _ _ (sx _ _ z)] at nL; cases nL
        · rw [sps, wn]
          exact .cons ⟨r, u, v0, rfl, sL _ _ upd_same, nv.tp (tp_same (sx.trans s4)), sL _ _ (sr _ _ upd_same)⟩ (rl.map fun v a h => h.tp (tp_same s4))
theorem leaves_fn {f : Addr} {fd : FuncData} (D : Df K mg "leaves" ["work"] sLeaves f fd) (T : Txt mg) : ∀ k, FnOk P w K mg base CX0 (k + 1) f fd ["work"] (spLv k)
  | 0 => ⟨fun _ _ _ _ h => h.elim, fun _ _ _ _ _ _ _ _ _ _ _ _ _ h => h.elim⟩
  | k + 1 => ok_leaves D T (D.ca (leaves_fn D T k))
theorem si_fn {f : Addr} {fd : FuncData} (D : Df K mg "spans_in" ["work", "start"] sSpansIn f fd) (T : Txt mg) : ∀ k, FnOk P w K mg base CX0 (k + 1) f fd ["work", "start"] (spSI k)
  | 0 => ⟨fun _ _ _ _ h => h.elim, fun _ _ _ _ _ _ _ _ _ _ _ _ _ h => h.elim⟩
  | k + 1 => ok_si D T (D.ca (si_fn D T k))
end
end K44
set_option Elab.async false
set_option linter.all false
set_option maxRecDepth 100000
set_option maxHeartbeats 4000000
set_option pp.maxSteps 400
set_option pp.deepTerms false
/-! min(xs, key=lambda p: ..) in a def: the lambda is made anew each time, its code object once -/
namespace Xlm
open PySem PySem.Spec PyProof.Rows L2 Az PySem.W LamX
/-- the names of a lambda of one parameter: the parameter, captured ones, globals -/
structure Lam1 (sc scope : Scope) (p : Str) : Prop where
  kind : scope.kind = .function
  co : scope.isCoroutine = false
  gen : scope.isGenerator = false
  par : scope.names.lookup p = some .local
  own : ∀ y ∈ scope.names, y.2 ≠ .cell ∧ (y.2 = .local → y.1 = p)
  free : ∀ y ∈ scope.names, y.2 = .free → sc.names.lookup y.1 = some .cell ∨ sc.names.lookup y.1 = some .free
/-- where the lambda's body stands -/
def lamX (X : Cx) (A : Around) (s : Shared) (H : Hp) (p : Str) (scope : Scope) (f c : Addr) : Cx :=
  { lamCx X A X.stack s H (fun _ _ _ => False) scope f c with N := p :: X.N, xe := fun _ _ => False }
section
variable {X : Cx} {pins : List (Addr × Obj)} {σ : L2.St} {H : Hp} {s : Shared}
theorem Lam1.has {scope : Scope} {p : Str} (L : Lam1 X.env.scope scope p) (ok : X.Ok) : ∀ y ∈ scope.names, y.2 = .free → ∃ c, X.env.cells.lookup y.1 = some c := fun y hy e =>
  (L.free y hy e).elim (fun k => ok.has _ (.inl k)) fun k => ok.has _ (.inr k)
theorem lam_in {A : Around} {scope : Scope} {f c : Addr} {p : Str} {v : V} {u : Value} {h₁ : Heap} {tk : Nat} (I : Inv X pins σ H s) (L : Lam1 X.env.scope scope p) (hp : p ∉ X.N) (fr : A.frames = some X.stack) (hd : A.handled = none) (rv : RelV v u)
    (hns : h₁.Ns s.heap.objs.size fun y => ([(p, u)] : List (Str × Value)).reverse.lookup y) (kp : ∀ b o, s.heap.get? b = some o → h₁.get? b = some o) :
    Inv (lamX X A s H p scope f c) [] (some v :: σ) H { s with heap := h₁, toks := tk } := by
  have z := I.env0
  have old : ∀ {y : Str} {a : Addr}, (cloFrom X.env.cells scope.names []).lookup y = some a → X.env.cells.lookup y = some a := fun {y a} e => by
    rcases cloFrom_mem (PySem.mem_of_lookup e) with q | ⟨q1, q2⟩
    · exact absurd q List.not_mem_nil
    · obtain ⟨a', e'⟩ := L.has I.ok _ q1 rfl
      replace e' : X.env.cells.lookup y = some a' := e'
      rw [e'] at q2 ⊢
      rw [q2]; rfl
  have look : ∀ {y : Str}, scope.names.lookup y = some .free → ∃ a, (cloFrom X.env.cells scope.names []).lookup y = some a := fun {y} e =>
    mem_lookup (cloFrom_has (cells := X.env.cells) (acc := []) (PySem.mem_of_lookup e))
  have nx : ∀ b : Addr, b ∉ (lamX X A s H p scope f c).ex := fun b y => absurd (show b ∈ ([] : List Addr) from y) List.not_mem_nil
  refine ⟨⟨z.mod, L.kind, rfl, rfl, Nat.le_refl _, fun y y' a e e' => I.ok.inj y y' a (old e) (old e'), fun y k => ?_, fun y a k _ => ?_, fun _ => hd, Around.frames_deeper fr, .inr ⟨rfl, rfl⟩, fun b y => absurd y (nx b), z.bs, z.bsz, fun b _ _ => nx b, fun b y => absurd y (nx b), z.funs, z.frf⟩,
    rfl, z.bare, Un.kept kp, ⟨_, hns, fun i y w e1 e2 e3 => ?_⟩, fun y a e => ?_, z.hok.fresh (Nat.le_refl _), fun y a e => I.freeC y a (old e), fun q hq => absurd (show q ∈ ([] : List (Addr × Obj)) from hq) List.not_mem_nil, z.hok.kept kp, congrArg Nat.succ I.len⟩
  · replace k : scope.names.lookup y = some .cell ∨ scope.names.lookup y = some .free := k
    rcases k with k | k
    · exact absurd rfl (L.own _ (PySem.mem_of_lookup k)).1
    · exact look k
  · exact absurd (show false = true from k) Bool.false_ne_true
  · cases i with
    | zero =>
      replace e1 : some p = some y := e1
      cases e1
      cases e2
      exact ⟨u, rv, .inl ⟨L.par, by simp⟩⟩
    | succ i =>
      replace e1 : X.N[i]? = some y := e1
      replace e2 : σ[i]? = some (some w) := e2
      have n : y ≠ p := fun q => hp (q ▸ List.mem_of_getElem? e1)
      replace e3 : Vis scope y := e3
      rcases e3 with k | k | k
      · exact absurd ((L.own _ (PySem.mem_of_lookup k)).2 rfl) n
      · exact absurd rfl (L.own _ (PySem.mem_of_lookup k)).1
      · obtain ⟨m, _, hl⟩ := I.loc
        have kf := L.free _ (PySem.mem_of_lookup k) rfl
        obtain ⟨u', r', q⟩ := hl i y w e1 e2 (kf.elim (fun k => .inr (.inl k)) fun k => .inr (.inr k))
        obtain ⟨a, ha⟩ := look k
        refine ⟨u', r', .inr ⟨.inr k, a, ha, ?_⟩⟩
        rcases q with ⟨k', _⟩ | ⟨_, a', e', o, ho, hd'⟩
        · replace k' : X.env.scope.names.lookup y = some .local := k'
          rcases kf with k2 | k2 <;> rw [show X.env.scope.names.lookup y = _ from k2] at k' <;> cases k'
        · have e2 := old ha
          rw [e'] at e2
          cases e2
          exact ⟨o, kp _ _ ho, hd'⟩
  · obtain ⟨w, o, ho, hd'⟩ := I.cell y a (old e)
    exact ⟨w, o, kp _ _ ho, hd'⟩
/-- the lambda called -/
theorem lam_call {A : Around} {params : Arguments} {body : Expr} {scope : Scope} {f c : Addr} {pm ctv : Value} {p : Str} {v : V} {u : Value} {k : Nat} {tb : TE} {Q : VK} {E : Value → Shared → Prop} (I : Inv X pins σ H s) (L : Lam1 X.env.scope scope p) (hp : p ∉ X.N)
    (hf : s.heap.get? f = some (kla_obj "<lambda>" (X.env.qual ++ "<lambda>") params body scope (cloFrom X.env.cells scope.names []) pm c ctv)) (hc : H c = some (CodeO c (X.env.qual ++ "<lambda>")))
    (bind : bindArgs (kla_fn "<lambda>" (X.env.qual ++ "<lambda>") params body scope (cloFrom X.env.cells scope.names []) pm (.ref c) ctv) ⟨[u], []⟩ = pure [(p, u)])
    (fr : A.frames = some X.stack) (room : Room (k + 1) A) (hb : Room k (A.deeper (lamEnv X scope s.heap.objs.size f c)) → PE (lamX X A s H p scope f c) body tb) (rv : RelV v u) (h : tb (some v :: σ) H Q) :
    wpAny (model X.prog X.w) A (call (.ref f) [u]) (fun y s' => CE X.stack X.prog X.w H s Q y s') E s := by
  obtain ⟨⟨oc, vs, t, hoc, hdc, hvc⟩, _, _⟩ := I.hok c _ hc
  refine wpAny_call (codeAny_mono (R := fun r s' => ∃ y, r = .ok (.ret y) ∧ CE X.stack X.prog X.w H s Q y s') (kla_callFunE room.depth hf rfl L.co L.gen rfl ⟨c, oc, vs, t, rfl, hoc, hdc, hvc⟩ ?_) fun r s' ⟨y, e, q⟩ => by subst e; exact q)
  rw [bind]
  refine wpAny_pure (wpAny_newFunctionEnv (fun y hy => (L.own y hy).1) (fun y hy => by rw [List.mem_singleton.mp hy]; exact L.par) (fun h₁ hns hsb => ⟨I.nolimit.fresh _ hsb, ?_⟩) L.kind)
  show codeAny _ _ (.expr body (lamEnv X scope s.heap.objs.size f c)) _ _
  have kp : ∀ b o, s.heap.get? b = some o → h₁.get? b = some o := fun b o e => hsb.extBut b o (Nat.ne_of_lt (Heap.lt_size e)) (Heap.get?_push_of_some _ e)
  have J := lam_in (A := A) (f := f) (c := c) (tk := s.toks + ([(p, u)] : List (Str × Value)).length) I L hp fr room.hd rv hns kp
  refine kla_codeExpr (wpAny_mono ((hb (room.deeper _)).run [] _ _ H Q J h) (fun y s' hq => ?_) fun _ _ q => False.elim q)
  obtain ⟨x, H', J', r, q⟩ := hq
  exact ⟨y, rfl, x, H', J'.os, J'.bare, J'.base, J'.hok, r, q⟩
end
/-! ## the walk of min -/
section
variable (X : Cx) (pins : List (Addr × Obj)) (σ : L2.St) (T : List (Addr × Str)) (H1 : Hp) (S It f c : Addr) (fo : Obj) (q : Str)
structure Jm (H : Hp) (s : Shared) : Prop where
  inv : Inv X pins σ H s
  ext : ExtN H1 H
  tab : Tabs T H
  fS : FpOk X pins H S
  fI : FpOk X pins H It
  fn : s.heap.get? f = some fo
  nf : H f = none
  cd : H c = some (CodeO c q)
  eS : ∃ o, s.heap.get? S = some o
  eI : ∃ o, s.heap.get? It = some o
end
section
variable {X : Cx} {pins : List (Addr × Obj)} {σ : L2.St} {T : List (Addr × Str)} {H1 : Hp} {S It f c : Addr} {fo : Obj} {q : Str}
theorem Jm.still {H : Hp} {s s' : Shared} (j : Jm X pins σ T H1 S It f c fo q H s) (m : Moved [S, It] (fun a b => b = a) s s') : Inv X pins σ H s' := by
  obtain ⟨h', g', d', t', o'⟩ := s'
  obtain rfl : g' = s.gens := m.gens
  obtain rfl : d' = s.drawn := m.drawn
  obtain rfl : o' = s.os := m.os
  refine Inv.turnedL (ch := [S, It]) j.inv (fun b o hb e => m.heap b o hb e) fun b hb => ?_
  rcases List.mem_cons.mp hb with e | e
  · rw [e]; exact j.fS
  · rw [List.mem_singleton.mp e]; exact j.fI
theorem Jm.moved {H : Hp} {s s' : Shared} (j : Jm X pins σ T H1 S It f c fo q H s) (hS : f ≠ S) (hI : f ≠ It) (m : Moved [S, It] (fun a b => b = a) s s') (eS : ∃ o, s'.heap.get? S = some o) (eI : ∃ o, s'.heap.get? It = some o) : Jm X pins σ T H1 S It f c fo q H s' := by
  refine ⟨j.still m, j.ext, j.tab, j.fS, j.fI, m.heap _ _ (fun z => ?_) j.fn, j.nf, j.cd, eS, eI⟩
  rcases List.mem_cons.mp z with e | e
  · exact hS e
  · exact hI (List.mem_singleton.mp e)
theorem moved_upd (s : Shared) (S It : Addr) (g : Obj → Obj) : Moved [S, It] (fun a b => b = a) s { s with heap := s.heap.update S g, toks := s.toks } :=
  ⟨fun b o hb e => (Heap.get?_update_other _ _ (fun z : S = b => hb (by rw [← z]; exact List.mem_cons_self))).trans e, rfl, rfl, rfl, Nat.le_refl _⟩
variable {Ky : Hp → V → PyData → Prop} {kd : V → PyData} {xs : List V} {A : Around} {n : Nat} {Pv : Nat → Value → Prop} {St : Nat → Shared → Prop} {fp : List Addr}
/-- what is asked of the key -/
structure KeyL (X : Cx) (pins : List (Addr × Obj)) (σ : L2.St) (T : List (Addr × Str)) (H1 : Hp) (S It f c : Addr) (fo : Obj) (q : Str) (Ky : Hp → V → PyData → Prop) (kd : V → PyData) (xs : List V) (A : Around) : Prop where
  turn : ∀ (H : Hp) (s : Shared) (v : V) (u : Value) (E : Value → Shared → Prop), Jm X pins σ T H1 S It f c fo q H s → v ∈ xs → RelV v u →
    wpAny (model X.prog X.w) A (call (.ref f) [u]) (fun k s' => ∃ y H', Jm X pins σ T H1 S It f c fo q H' s' ∧ RelV y k ∧ Ky H' y (kd v) ∧ (∀ b zs, H b = some (.tup zs) → H' b = some (.tup zs)) ∧
      (∀ b o, FpOk X pins H b → s.heap.get? b = some o → s'.heap.get? b = some o)) E s
  dz : ∀ H y d, Ky H y d → Dz X.K H y d
  keep : ∀ H H' y d, (∀ b zs, H b = some (.tup zs) → H' b = some (.tup zs)) → Ky H y d → Ky H' y d
  alike : ∀ v ∈ xs, ∀ v' ∈ xs, alike (kd v) (kd v') = true
  some : ∀ v ∈ xs, kd v ≠ .none ∧ (kd v).depth ≤ 50
  units : A.units + 60 < cLine
theorem KeyL.less {A : Around} (K : KeyL X pins σ T H1 S It f c fo q Ky kd xs A) {H : Hp} {s : Shared} {v v' : V} {y y' : V} {k k' : Value} {E : Value → Shared → Prop} {Q : Value → Shared → Prop} (j : Jm X pins σ T H1 S It f c fo q H s) (hv : v ∈ xs) (hv' : v' ∈ xs)
    (r : RelV y k) (r' : RelV y' k') (d : Ky H y (kd v)) (d' : Ky H y' (kd v')) (h : ∀ b, Q (.bool b) s) : wpAny (model X.prog X.w) A (richCompare .Lt k k') Q E s := by
  obtain ⟨as, ra, _⟩ := Dz.reads j.inv _ _ _ (K.dz _ _ _ d) r
  obtain ⟨bs, rb, _⟩ := Dz.reads j.inv _ _ _ (K.dz _ _ _ d') r'
  refine rcLt_alike _ _ A s k k' as bs ra rb (K.alike v hv v' hv') (K.some v hv).1 ?_ X.prog X.w E Q (h _)
  have := K.units
  have := (K.some v hv).2
  omega
variable {R : Result → Shared → Prop} {kw : List (Str × Value)}
theorem min_more (W : WalksS X.prog X.w A.in1 It fp [It] (fun a b => b = a) n Pv St) (hSf : S ∉ fp) (nfS : f ≠ S) (nfI : f ≠ It) (K : KeyL X pins σ T H1 S It f c fo q Ky kd xs A.in1) (hPv : ∀ i v, Pv i v → ∃ x, x ∈ xs ∧ RelV x v)
    (hSt : ∀ i s s', St i s → (∀ b o, b ∈ fp → s.heap.get? b = some o → s'.heap.get? b = some o) → St i s') (hfp : ∀ (H : Hp) (s : Shared) (i : Nat), Jm X pins σ T H1 S It f c fo q H s → St i s → ∀ (s' : Shared) (H' : Hp), Jm X pins σ T H1 S It f c fo q H' s' → (∀ b o, FpOk X pins H b → s.heap.get? b = some o → s'.heap.get? b = some o) → St i s')
    (hIt : ∀ i s, St i s → ∃ o, s.heap.get? It = some o) (hR : ∀ x v s' H', x ∈ xs → RelV x v → Inv X pins σ H' s' → ExtN H1 H' → Tabs T H' → R (.ok (.ret v)) s') :
    ∀ (m j : Nat) (s : Shared) (H : Hp) (vb kb : Value) (e : Nat) (xb yb : V), n - (j + 1) = m → j + 1 ≤ n → Jm X pins σ T H1 S It f c fo q H s → St (j + 1) s → xb ∈ xs → RelV xb vb → RelV yb kb → Ky H yb (kd xb) →
      s.heap.get? S = some { cls := .type "list", dict := none, data := .seq #[vb, kb] e, slots := #[] } → codeAny (model X.prog X.w) A (.builtin "min.loop" ⟨[.ref It, .ref f, .ref S], kw⟩) R s := by
  have nS : S ∉ [It] := fun z => hSf (W.sub _ z)
  have sub : ∀ b ∈ [It], b ∈ [S, It] := fun b hb => List.mem_cons_of_mem _ hb
  have nm : (toString "min" ++ toString ".loop" : String) = "min.loop" := by decide
  have other : ∀ {b : Addr}, b ∉ [S, It] → S ≠ b := fun {b} hb z => hb (z ▸ List.mem_cons_self)
  intro m
  induction m with
  | zero =>
    intro j s H vb kb e xb yb hm hj J st hx rb ry ky hS
    have last : j + 1 = n := by omega
    refine codeAny_builtin F.entry_min_loop ?go
    case go =>
      rw [Around.under_plainId F.plain_min_loop _]
      show wpAny _ A.in1 (seqItems? (.ref S) >>= _) _ _ s
      refine wpAny_bind (wpAny_seqItems hS rfl ?_); show wpAny _ A.in1 (tryCatch (pyNext (.ref It)) _ >>= _) _ _ s
      refine wpAny_bind (wpAny_tryCatch (W.done s _ _ (last ▸ st) fun s' hm' => ?_))
      have hS' := hm'.heap S _ nS hS
      show wpAny _ A.in1 (updateSeq S (fun _ => #[]) >>= _) _ _ _
      refine wpAny_bind ?_
      refine wpAny_updateSeq hS' rfl (wpAny_bind (wpAny_letGo (wpAny_pure ?_)))
      exact hR xb vb _ H hx rb (J.still ((hm'.mono sub).then_heap (tk := s'.toks) (Nat.le_refl _) fun b o hb e => (Heap.get?_update_other _ _ (other hb)).trans e)) J.ext J.tab
  | succ m ih =>
    intro j s H vb kb e xb yb hm hj J st hx rb ry ky hS
    have lt : j + 1 < n := by omega
    refine codeAny_builtin F.entry_min_loop ?go
    case go =>
      rw [Around.under_plainId F.plain_min_loop _]
      show wpAny _ A.in1 (seqItems? (.ref S) >>= _) _ _ s
      refine wpAny_bind (wpAny_seqItems hS rfl ?_); show wpAny _ A.in1 (tryCatch (pyNext (.ref It)) _ >>= _) _ _ s
      refine wpAny_bind (wpAny_tryCatch (W.item (j + 1) s _ _ lt st fun v s' hP st' hm' => ?_))
      have hS' := hm'.heap S _ nS hS
      have J' := J.moved nfS nfI (hm'.mono sub) ⟨_, hS'⟩ (hIt _ _ st')
      obtain ⟨x, hx', rx⟩ := hPv _ _ hP
      show wpAny _ A.in1 (tryCatch (holding [v] (call (.ref f) [v])) _ >>= _) _ _ _
      refine wpAny_bind (wpAny_tryCatch (wpAny_holding (wpAny_mono (K.turn H s' x v _ J' hx' rx) (fun kx s2 hk => ?_) fun _ _ y => y)))
      obtain ⟨y, H2, J2, r2, k2, tups, fps⟩ := hk
      have hS2 := fps S _ J'.fS hS'
      have st2 := hfp H s' _ J' st' s2 H2 J2 fps
      show wpAny _ A.in1 (tryCatch (holding [v, kx] (richCompare .Lt kx kb >>= _)) _ >>= _) _ _ _
      refine wpAny_bind (wpAny_tryCatch (wpAny_holding (wpAny_bind (K.less J2 hx' hx r2 ry k2 (K.keep _ _ _ _ tups ky) fun b => ?_))))
      refine wpAny_bind (wpAny_holding (wpAny_truthy_bool ?_)); refine wpAny_bind (wpAny_letGo (wpAny_pure ?_))
      cases b with
      | true =>
        simp only [if_true]
        refine wpAny_bind ?_
        refine wpAny_updateSeq hS2 rfl (wpAny_bind (wpAny_letGo ?_)); rw [nm]
        refine wpAny_pure ⟨plainId_quiet F.plain_min_loop _, ih (j + 1) _ H2 v kx _ x y (by omega) lt (J2.moved nfS nfI (moved_upd s2 S It _) ⟨_, Heap.get?_update_self _ hS2 rfl⟩ (by obtain ⟨o, e⟩ := J2.eI; exact ⟨o, (Heap.get?_update_other _ _ (fun z : S = It => nS (by rw [z]; exact List.mem_singleton.mpr rfl))).trans e⟩)) (hSt _ _ _ st2 fun b o hb e => ?_) hx' rx r2 k2 (Heap.get?_update_self _ hS2 rfl)⟩
        exact (Heap.get?_update_other _ _ (fun z : S = b => hSf (z ▸ hb))).trans e
      | false =>
        simp only [Bool.false_eq_true, if_false]
        refine wpAny_bind (wpAny_letGo ?_); rw [nm]
        exact wpAny_pure ⟨plainId_quiet F.plain_min_loop _, ih (j + 1) _ H2 vb kb e xb yb (by omega) lt J2 st2 hx rb ry (K.keep _ _ _ _ tups ky) hS2⟩
theorem min_first (W : WalksS X.prog X.w A.in1 It fp [It] (fun a b => b = a) n Pv St) (hSf : S ∉ fp) (nfS : f ≠ S) (nfI : f ≠ It) (K : KeyL X pins σ T H1 S It f c fo q Ky kd xs A.in1) (hPv : ∀ i v, Pv i v → ∃ x, x ∈ xs ∧ RelV x v)
    (hSt : ∀ i s s', St i s → (∀ b o, b ∈ fp → s.heap.get? b = some o → s'.heap.get? b = some o) → St i s') (hfp : ∀ (H : Hp) (s : Shared) (i : Nat), Jm X pins σ T H1 S It f c fo q H s → St i s → ∀ (s' : Shared) (H' : Hp), Jm X pins σ T H1 S It f c fo q H' s' → (∀ b o, FpOk X pins H b → s.heap.get? b = some o → s'.heap.get? b = some o) → St i s')
    (hIt : ∀ i s, St i s → ∃ o, s.heap.get? It = some o) (hR : ∀ x v s' H', x ∈ xs → RelV x v → Inv X pins σ H' s' → ExtN H1 H' → Tabs T H' → R (.ok (.ret v)) s') (hn : 0 < n) {s : Shared} {H : Hp} {e : Nat} (J : Jm X pins σ T H1 S It f c fo q H s) (st : St 0 s)
    (hS : s.heap.get? S = some { cls := .type "list", dict := none, data := .seq #[] e, slots := #[] }) : codeAny (model X.prog X.w) A (.builtin "min.loop" ⟨[.ref It, .ref f, .ref S], kw⟩) R s := by
  have nS : S ∉ [It] := fun z => hSf (W.sub _ z)
  have sub : ∀ b ∈ [It], b ∈ [S, It] := fun b hb => List.mem_cons_of_mem _ hb
  have nm : (toString "min" ++ toString ".loop" : String) = "min.loop" := by decide
  refine codeAny_builtin F.entry_min_loop ?go
  case go =>
    rw [Around.under_plainId F.plain_min_loop _]
    show wpAny _ A.in1 (seqItems? (.ref S) >>= _) _ _ s
    refine wpAny_bind (wpAny_seqItems hS rfl ?_); show wpAny _ A.in1 (tryCatch (pyNext (.ref It)) _ >>= _) _ _ s
    refine wpAny_bind (wpAny_tryCatch (W.item 0 s _ _ hn st fun v s' hP st' hm' => ?_))
    have hS' := hm'.heap S _ nS hS
    have J' := J.moved nfS nfI (hm'.mono sub) ⟨_, hS'⟩ (hIt _ _ st')
    obtain ⟨x, hx', rx⟩ := hPv _ _ hP
    show wpAny _ A.in1 (tryCatch (holding [v] (call (.ref f) [v])) _ >>= _) _ _ _
    refine wpAny_bind (wpAny_tryCatch (wpAny_holding (wpAny_mono (K.turn H s' x v _ J' hx' rx) (fun kx s2 hk => ?_) fun _ _ y => y)))
    obtain ⟨y, H2, J2, r2, k2, tups, fps⟩ := hk
    have hS2 := fps S _ J'.fS hS'
    have st2 := hfp H s' _ J' st' s2 H2 J2 fps
    show wpAny _ A.in1 (updateSeq S (fun _ => #[v, kx]) >>= _) _ _ _
    refine wpAny_bind ?_
    refine wpAny_updateSeq hS2 rfl ?_; rw [nm]
    refine wpAny_pure ⟨plainId_quiet F.plain_min_loop _, min_more W hSf nfS nfI K hPv hSt hfp hIt hR _ 0 _ H2 v kx _ x y rfl hn (J2.moved nfS nfI (moved_upd s2 S It _) ⟨_, Heap.get?_update_self _ hS2 rfl⟩ (by obtain ⟨o, e⟩ := J2.eI; exact ⟨o, (Heap.get?_update_other _ _ (fun z : S = It => nS (by rw [z]; exact List.mem_singleton.mpr rfl))).trans e⟩)) (hSt _ _ _ st2 fun b o hb e => ?_) hx' rx r2 k2 (Heap.get?_update_self _ hS2 rfl)⟩
    exact (Heap.get?_update_other _ _ (fun z : S = b => hSf (z ▸ hb))).trans e
end
section
theorem sqT_extN {K : PySem.W.Frag} {H H' : Hp} (s : ExtN H H') {t : Addr} {xs : List V} (q : SqT K H t xs) : SqT K H' t xs := by
  rcases q with (q | ⟨o, q⟩) | q
  · exact .inl (.inl (s _ _ q fun ps z => by cases z))
  · exact .inl (.inr ⟨o, s _ _ q fun ps z => by cases z⟩)
  · exact .inr q
/-- where the walk of a tuple stands -/
def Stt (xs : List V) (It l : Addr) (i : Nat) (s : Shared) : Prop := ∃ vs : Array Value, Vals xs vs.toList ∧ s.heap.IsTupleIter It l i ∧ s.heap.IsTuple l vs
theorem walk_tt {prog : Program} {w : World} {A : Around} {It l : Addr} {xs : List V} (hh : A.handled = none) (ne : l ≠ It) :
    WalksS prog w A It [It, l] [It] (fun a b => b = a) xs.length (fun i v => ∃ x, xs[i]? = some x ∧ RelV x v) (Stt xs It l) := by
  have W := fun vs : Array Value => (Walks.tuple (prog := prog) (w := w) (A := A) hh It l ne vs).toS
  have sz : ∀ {vs : Array Value}, Vals xs vs.toList → vs.size = xs.length := fun {vs} r => by rw [r.length, Array.length_toList]
  refine ⟨fun b hb => by simp at hb; simp [hb], fun _ => rfl, fun a b c h1 h2 => h2.trans h1, fun i s h' tk st le k => ?_, fun i s Q E hi st h => ?_, fun s Q E st h => ?_, fun i s Q E st h => ?_⟩
  · obtain ⟨vs, r, st⟩ := st
    exact ⟨vs, r, (W vs).frame i s h' tk st le k⟩
  · obtain ⟨vs, r, st⟩ := st
    refine (W vs).item i s Q E (by rw [sz r]; exact hi) st fun v s' hP st' hm => h v s' ?_ ⟨vs, r, st'⟩ hm
    obtain ⟨v', e', rx⟩ := r.get (List.getElem?_eq_getElem hi)
    rw [Array.getElem?_toList, show vs[i]? = some v from hP] at e'
    cases e'
    exact ⟨_, List.getElem?_eq_getElem hi, rx⟩
  · obtain ⟨vs, r, st⟩ := st
    exact (W vs).done s Q E (by rw [sz r]; exact st) h
  · obtain ⟨vs, r, st⟩ := st
    exact (W vs).self i s Q E st h
end
abbrev itO (l : Addr) : Obj := { cls := .type "tuple_iterator", data := .fields #[.ref l, .int 0 0] }
/-- min(e, key=lambda pn: body): some item -/
def tMinLam (K : PySem.W.Frag) (T : List (Addr × Str)) (Ky : Hp → V → PyData → Prop) (ta tb : TE) : TE := fun σ H Q => ta σ H fun x H1 => ∃ (l : Addr) (xs : List V) (kd : V → PyData), x = .ref l ∧ SqT K H1 l xs ∧ xs ≠ [] ∧ Tabs T H1 ∧
  (∀ v ∈ xs, ∀ v' ∈ xs, alike (kd v) (kd v') = true) ∧ (∀ v ∈ xs, kd v ≠ .none ∧ (kd v).depth ≤ 50) ∧
  (∀ H2, ExtN H1 H2 → Tabs T H2 → ∀ v ∈ xs, tb (some v :: σ) H2 fun y H3 => ExtN H2 H3 ∧ Tabs T H3 ∧ Ky H3 y (kd v)) ∧ ∀ v ∈ xs, ∀ H', ExtN H1 H' → Tabs T H' → Q v H'
section
variable {X : Cx}
theorem pe_minLam {T : List (Addr × Str)} {Ky : Hp → V → PyData → Prop} {e : Expr} {params : Arguments} {body : Expr} {scope : Scope} {lpos kpos p pos : Pos} {pn : Str} {c P : Addr} {k : Nat} {ta tb : TE}
    (hg : Gl X "min") (hm : X.mg "min" = none) (calm : X.calm = true) (room : Room (k + 3) X.A) (ha : PE X e ta)
    (TB : TabB X.base X.mg c P) (hcode : X.env.code = .ref c) (hmT : (P, X.env.qual ++ "<lambda>") ∈ T) (hu : ∀ p ∈ T, p.1 = P → p.2 = X.env.qual ++ "<lambda>") (L : Lam1 X.env.scope scope pn) (hpn : pn ∉ X.N) (hdef : defaultsOf params X.env = ([], []))
    (hbind : ∀ (q : Str) (cl : List (Str × Addr)) (pm cv ctv u : Value), bindArgs (kla_fn "<lambda>" q params body scope cl pm cv ctv) ⟨[u], []⟩ = pure [(pn, u)])
    (hbody : ∀ (A : Around) (s : Shared) (H : Hp) (f c' : Addr), Room k (A.deeper (lamEnv X scope s.heap.objs.size f c')) → PE (lamX X A s H pn scope f c') body tb)
    (hdz : ∀ H y d, Ky H y d → Dz X.K H y d) (hkeep : ∀ (H H' : Hp) y d, (∀ b zs, H b = some (.tup zs) → H' b = some (.tup zs)) → Ky H y d → Ky H' y d)
    (hs0 : starEach [e] X.env = (false, eval e X.env) :: starEach [] X.env := by rfl) (he : backTo pos (starEach [e] X.env) = (false, eval e X.env) :: backTo pos (starEach [] X.env) := by rfl) (hpl : (backTo pos (starEach [e] X.env)).any (·.1) = false := by rfl) :
    PE X (.Call (.Name "min" p) [e] [⟨some "key", .Lambda params body scope lpos, kpos⟩] pos) (tMinLam X.K T Ky ta tb) := by
  refine ⟨fun pins s σ H Q I h => ?_⟩
  refine wpAny_Call_Name_kw (ld_blt I hg hm (u := .builtin "min") (by decide +kernel) ?_)
  refine PyProof.Rows.callWith_kw (thn ((pa_cons (hs := hs0) ha pa_nil).run pos pins s σ H (fun vs H1 => match vs with
    | [x] => ∃ (l : Addr) (xs : List V) (kd : V → PyData), x = .ref l ∧ SqT X.K H1 l xs ∧ xs ≠ [] ∧ Tabs T H1 ∧
      (∀ v ∈ xs, ∀ v' ∈ xs, alike (kd v) (kd v') = true) ∧ (∀ v ∈ xs, kd v ≠ .none ∧ (kd v).depth ≤ 50) ∧
      (∀ H2, ExtN H1 H2 → Tabs T H2 → ∀ v ∈ xs, tb (some v :: σ) H2 fun y H3 => ExtN H2 H3 ∧ Tabs T H3 ∧ Ky H3 y (kd v)) ∧ ∀ v ∈ xs, ∀ H', ExtN H1 H' → Tabs T H' → Q v H'
    | _ => False) I h) fun us s1 hq => ?_) he hpl
  obtain ⟨ws, H1, I1, r1, q1⟩ := hq
  match ws, q1 with
  | [], q1 => exact False.elim q1
  | _ :: _ :: _, q1 => exact False.elim q1
  | [x], q1 =>
    obtain ⟨l, xs, kd, rfl, hs, ne, hT, hal, hso, hbd, hq⟩ := q1
    obtain ⟨u, rfl, ru⟩ := vals1 r1
    cases ru
    show wpAny _ _ (evalAll ((do let v ← eval (.Lambda params body scope lpos) X.env; standAt pos; pure v) :: [])) _ _ s1
    refine wpAny_evalAll_cons (wpAny_bind (lam_make2 I1 TB hcode hmT hu hT hdef (L.has I1.ok) fun f c' pm ctv H2 s2 I2 eN T2 hf hfn hfr hco => wpAny_bind (wpAny_standAt (wpAny_pure (wpAny_evalAll_nil ?_)))))
    show wpAny _ _ (call (.builtin "min") [.ref l] [(Str.ofString "key", .ref f)]) _ _ s2
    have hs2 := sqT_extN eN hs
    obtain ⟨its, rx, hit, _⟩ := I2.tuple hs2
    have hIt : s2.heap.IsTuple l its.toArray := hit
    have hl : l < s2.heap.objs.size := by obtain ⟨o, ho, _⟩ := hIt; exact Heap.lt_size ho
    have hf' : f < s2.heap.objs.size := Heap.lt_size hf
    have hh : X.A.handled = none := I.ok.hd calm
    have nm : (toString "min" ++ toString ".loop" : String) = "min.loop" := by decide
    refine kmk_tree F.kind_min F.plain_min F.entry_min (kmk_min_key _ _) ?go
    case go =>
      show wpAny _ X.A.in1 (Builtin.Builtins.bindParams "min" ["key", "default"] 0 ⟨[], [(Str.ofString "key", .ref f)]⟩ >>= _) _ _ s2
      refine wpAny_bind (wpAny_of_eq (show Builtin.Builtins.bindParams "min" ["key", "default"] 0 ⟨[], [(Str.ofString "key", .ref f)]⟩ = pure [some (.ref f), none] from rfl) ?_)
      refine wpAny_bind (wpAny_pure (wpAny_bind (wpAny_pyIter_tuple hIt (wpAny_bind (wpAny_newObj_type ?_)))))
      rw [nm]
      -- the iterator, the list
      have sz : (s2.heap.push (itO l)).objs.size = s2.heap.objs.size + 1 := Heap.size_push ..
      show wpAny _ _ _ _ _ { s2 with heap := (s2.heap.push (itO l)).push { cls := .type "list", data := .seq #[] 0 } }
      have le1 : s2.heap.objs.size ≤ s2.heap.objs.size := Nat.le_refl _
      have le2 : s2.heap.objs.size ≤ (s2.heap.push (itO l)).objs.size := by rw [sz]; omega
      have kp : ∀ b o, s2.heap.get? b = some o → ((s2.heap.push (itO l)).push { cls := .type "list", data := .seq #[] 0 }).get? b = some o := fun b o e => Heap.get?_push_of_some _ (Heap.get?_push_of_some _ e)
      have J : Jm X pins σ T H1 (s2.heap.push (itO l)).objs.size s2.heap.objs.size f c' _ (X.env.qual ++ "<lambda>") H2 { s2 with heap := (s2.heap.push (itO l)).push { cls := .type "list", data := .seq #[] 0 } } :=
        ⟨I2.kept (t' := s2.toks) kp, eN, T2, I2.fpOk le2 (I2.hok.fresh le2), I2.fpOk le1 (I2.hok.fresh le1), kp _ _ hf, hfn, hco, ⟨_, Heap.get?_push_size _ rfl⟩, ⟨_, Heap.get?_push_of_some _ (Heap.get?_push_size _ rfl)⟩⟩
      have nS : (s2.heap.push (itO l)).objs.size ∉ [s2.heap.objs.size, l] := fun z => by
        rw [sz] at z
        rcases List.mem_cons.mp z with z | z
        · exact absurd z (Nat.succ_ne_self _)
        · exact absurd hl (by rw [← List.mem_singleton.mp z]; exact Nat.not_lt.mpr (Nat.le_succ _))
      have K : KeyL X pins σ T H1 (s2.heap.push (itO l)).objs.size s2.heap.objs.size f c' (kla_obj "<lambda>" (X.env.qual ++ "<lambda>") params body scope (cloFrom X.env.cells scope.names []) pm c' ctv) (X.env.qual ++ "<lambda>") Ky kd xs X.A.in1 := by
        refine ⟨fun H s v u E J hv rv => ?_, hdz, hkeep, hal, hso, ?_⟩
        · have fr : X.A.in1.frames = some X.stack := by show X.A.frames = some X.stack; exact I.ok.frames
          refine wpAny_mono (lam_call (E := E) J.inv L hpn J.fn J.cd (hbind _ _ _ _ _ _) fr (room.in1.mono (by omega) : Room (k + 1) _) (fun hr => hbody _ _ _ _ _ hr) rv (hbd H J.ext J.tab v hv)) (fun y s' hq' => ?_) fun _ _ z => z
          obtain ⟨z, H', os, bare, un, hok, rz, eN', T', ky⟩ := hq'
          have I' : Inv X pins σ H' s' := J.inv.call' os un hok bare fun b hb => absurd hb List.not_mem_nil
          have kpt : ∀ b o, FpOk X pins H b → s.heap.get? b = some o → s'.heap.get? b = some o := fun b o fb e => un.keep _ _ e fb.1 (fun hz => by
            rcases List.mem_cons.mp (J.inv.stkSub b hz) with e' | e'
            · exact fb.2.1 e'
            · exact fb.2.2.1 e') List.not_mem_nil
          have fz : ∀ b o, s.heap.get? b = some o → FpOk X pins H b → FpOk X pins H' b := fun b o e fb => ⟨un.free _ _ e fb.1 List.not_mem_nil, fb.2⟩
          obtain ⟨oS, eS⟩ := J.eS
          obtain ⟨oI, eI⟩ := J.eI
          refine ⟨z, H', ⟨I', J.ext.trans eN', T', fz _ _ eS J.fS, fz _ _ eI J.fI, un.keep _ _ J.fn J.nf (fun hz => ?_) List.not_mem_nil, un.free _ _ J.fn J.nf List.not_mem_nil, eN' _ _ J.cd codeO_ne, ⟨_, kpt _ _ J.fS eS⟩, ⟨_, kpt _ _ J.fI eI⟩⟩, rz, ky, un.tups, kpt⟩
          exact hfr hz
        · have := room.units
          show X.A.units + 1 + 60 < cLine
          omega
      refine wpAny_pure ⟨plainId_quiet F.plain_min_loop _, min_first (A := X.A) (fp := [s2.heap.objs.size, l]) (St := Stt xs s2.heap.objs.size l) (walk_tt (A := X.A.in1) hh (Nat.ne_of_lt hl)) nS (Nat.ne_of_lt (Nat.lt_of_lt_of_le hf' le2)) (Nat.ne_of_lt hf') K
        (fun i v ⟨x, e, r⟩ => ⟨x, List.mem_of_getElem? e, r⟩) (fun i s s' st k => ?_) (fun H s i J st s' H' J' kk => ?_) (fun i s ⟨vs, r, ⟨o, e, _⟩, _⟩ => ⟨o, e⟩) (fun x v s' H' hx r I' e' t' => ⟨x, H', I', r, hq x hx H' e' t'⟩) (List.length_pos_iff.mpr ne) J ⟨its.toArray, by simpa using rx, ?_, ?_⟩ (Heap.get?_push_size _ rfl)⟩
      · obtain ⟨vs, r, ⟨o, e, r1⟩, ⟨o', e', r2⟩⟩ := st
        exact ⟨vs, r, ⟨o, k _ _ List.mem_cons_self e, r1⟩, ⟨o', k _ _ (by simp) e', r2⟩⟩
      · obtain ⟨vs, r, ⟨o, e, r1⟩, _⟩ := st
        obtain ⟨its', rx', hit', _⟩ := J'.inv.tuple (sqT_extN J'.ext hs)
        exact ⟨its'.toArray, by simpa using rx', ⟨o, kk _ _ J.fI e, r1⟩, hit'⟩
      · exact ⟨_, Heap.get?_push_of_some _ (Heap.get?_push_size _ rfl), rfl, rfl⟩
      · exact (hIt.push _).push _
end
end Xlm
set_option Elab.async false
set_option linter.all false
set_option maxRecDepth 100000
set_option maxHeartbeats 4000000
set_option pp.maxSteps 400
set_option pp.deepTerms false
namespace K44
open PySem PySem.Spec PyProof.Rows L2
open Xk Az W37
section
variable {P : Program} {w : World} {K : PySem.W.Frag} {mg : Str → Option Value} {base : Heap}
theorem pe_no {X : Cx} {e : Expr} : PE X e (fun _ _ _ => False) := ⟨fun _ _ _ _ _ _ h => False.elim h⟩
def SpV (H : Hp) (v : V) : Option S2 → Prop
  | none => v = .non
  | some s => ∃ u : Addr, v = .ref u ∧ H u = some (.tup [.int s.1, .int s.2])
theorem SpV.tp {H H' : Hp} {v : V} {o : Option S2} (h : SpV H v o) (s : Tp H H') : SpV H' v o := by
  cases o with
  | none => exact h
  | some z => obtain ⟨u, e, e2⟩ := h; exact ⟨u, e, s _ _ e2⟩
def TtV (H : Hp) (v : V) : Option Nm → Prop
  | none => v = .non
  | some m => NmV H v m
theorem TtV.tp {H H' : Hp} {v : V} {o : Option Nm} (h : TtV H v o) (s : Tp H H') : TtV H' v o := by
  cases o with
  | none => exact h
  | some z => exact NmV.tp (show NmV H v z from h) s
theorem eqv_nD (a b : Nm) : PyData.eqv (nD a) (nD b) = decide (a = b) := by
  obtain ⟨a1, a2⟩ := a
  obtain ⟨b1, b2⟩ := b
  unfold nD
  simp only [PyData.eqv, PyData.eqvAll, Bool.and_true]
  by_cases h1 : a1 = b1
  · by_cases h2 : a2 = b2
    · subst h1 h2
      simp
    · rw [decide_eq_false (fun z => h2 (congrArg Prod.snd z))]
      rw [beq_eq_false_iff_ne.mpr h2, Bool.and_false]
  · rw [decide_eq_false (fun z => h1 (congrArg Prod.fst z))]
    rw [beq_eq_false_iff_ne.mpr h1, Bool.false_and]
theorem nm_dp {H : Hp} {v : V} {n : Nm} (h : NmV H v n) : Dp K H v (nD n) := by
  obtain ⟨t, rfl, e⟩ := h
  exact .tup (SqT.of e) (.cons (.str _) (.cons (.str _) .nil))
abbrev An (m : Nm) : Prop := N44.Gd m
theorem shaped_nm {m : Nm} (h : An m) : SeqAt.shaped (nD m) = true := h.sh
/-- what the names of a call may be: none, or a book -/
inductive Ora (C : Addr) (H : Hp) : V → (Nm → Nm → Bool) → Prop
  | non : Ora C H .non (fun a b => decide (a = b))
  | book {b dx g : Addr} {fs : List (Str × V)} {es : List Xnp.Pair} (e : H b = some (.ins C dx fs)) (lg : fs.lookup ("groups" : Str) = some (.ref g)) (lc : fs.lookup ("class_of" : Str) = none) (lo : fs.lookup ("are_one" : Str) = none) (gp : N44.Gps H g es) (gd : ∀ n ∈ Xnp.nodes es, N44.Gd n) : Ora C H (.ref b) (fun a b => N44.oneB es a b)
theorem Ora.same {C : Addr} {H H' : Hp} {v : V} {g : Nm → Nm → Bool} (h : Ora C H v g) (s : L2.Same H H') : Ora C H' v g := by
  cases h with
  | non => exact .non
  | book e lg lc lo gp gd => exact .book (s _ _ e) lg lc lo (gp.same s) gd
theorem Ora.refl {C : Addr} {H : Hp} {v : V} {g : Nm → Nm → Bool} (h : Ora C H v g) (a : Nm) : g a a = true := by
  cases h with
  | non => exact decide_eq_true rfl
  | book =>
    unfold N44.oneB
    exact @decide_eq_true _ (Classical.propDecidable _) (Xnp.Rch.refl a)
def spG (g : Nm → Nm → Bool) (w : W) (m : Nm) : Option S2 := ((sps w 0).find? fun r => g r.1 m).map (·.2)
theorem spG_in {g : Nm → Nm → Bool} {w : W} {m : Nm} {s : S2} (h : spG g w m = some s) : 0 ≤ s.1 ∧ s.1 < s.2 ∧ s.2 ≤ nl w := by
  unfold spG at h
  obtain ⟨r, e, rfl⟩ := Option.map_eq_some_iff.mp h
  have := sps_in w 0 r (List.mem_of_find?_eq_some e)
  exact ⟨this.1, this.2.1, by have := this.2.2; omega⟩
def spSO (C : Addr) : Sp := fun vs H Q _ => ∃ (v nv nm : V) (w : W) (m : Nm) (g : Nm → Nm → Bool), vs = [v, nv, nm] ∧ Ora C H nm g ∧ Wk H v w ∧ w.dp ≤ 5 ∧ w.nms.length ≤ 100 ∧ (∀ m ∈ w.nms, An m) ∧ NmV H nv m ∧ An m ∧ ∀ r H', L2.Same H H' → SpV H' r (spG g w m) → Q r H'
def spSOs (K : PySem.W.Frag) (C : Addr) : Sp := fun vs H Q _ => ∃ (v : V) (T : Addr) (xs : List V) (w : W) (ts : List (Option Nm)) (nm : V) (g : Nm → Nm → Bool), vs = [v, .ref T, nm] ∧ Ora C H nm g ∧ Wk H v w ∧ w.dp ≤ 5 ∧ w.nms.length ≤ 100 ∧ (∀ m ∈ w.nms, An m) ∧ SqT K H T xs ∧ Lp (TtV H) xs ts ∧ ts.length ≤ 30 ∧ (∀ m, some m ∈ ts → An m) ∧
  ∀ (L : Addr) ys H', L2.Same H H' → H L = none → H' L = some (.lst ys) → Lp (SpV H') ys (ts.map fun t => t.bind (spG g w)) → Q (.ref L) H'
def spLW : Sp := fun vs H Q _ => ∃ (u : Addr) (s : S2), vs = [.ref u] ∧ H u = some (.tup [.int s.1, .int s.2]) ∧ Q (.int (s.2 - s.1)) H
def spAh : Sp := fun vs H Q _ => ∃ (u t : Addr) (s r : S2), vs = [.ref u, .ref t] ∧ H u = some (.tup [.int s.1, .int s.2]) ∧ H t = some (.tup [.int r.1, .int r.2]) ∧ Q (.bl (decide (s.2 ≤ r.1))) H
theorem okN {x qual : Str} {params : Arguments} {body : List Stmt} {scope : Scope} {dvs : List V} {kws : List (Str × V)} {f : Addr} {fd : FuncData} {N ps : List Str} {k : Nat} {sp : Sp} (F : FunD K x qual params body scope dvs kws f fd) (S : FnScope N ps scope) (len : ∀ vs H Q E, sp vs H Q E → vs.length = ps.length)
    (hbody : ∀ (cdv : Value) (A : Around) (outer : List Env) (s : Shared) (H : Hp) (vs : List V) (Q : VK) (E : XK), Room k (A.deeper (envOfC qual scope s.heap.objs.size f cdv)) → sp vs H Q E →
      ∃ t, PSs (cxOf CX0 P w K mg base N qual scope f cdv A outer s H E).nox body t ∧ t { nx := fun _ H' => Q .non H', rt := Q } (start N vs) H) : FnOk P w K mg base CX0 (k + 1) f fd ps sp :=
  F.ok S len fun cdv A outer s H vs Q E hr h => by
    obtain ⟨t, ht, hq⟩ := hbody cdv A outer s H vs Q E hr h
    exact ⟨t, ht.nox, hq⟩
theorem ok_so {f : Addr} {fd : FuncData} {C : Addr} (F : FunD K "span_of" "span_of" (defArgs sSpanOf) (defBody sSpanOf) (defScope sSpanOf) [.non] [] f fd) (T : Txt mg) (cSI : Ca P w K mg base 6 "spans_in" ["work", "start"] (spSI 5)) (hC : L2.Cls K C) (cAo : N44.Mt P w K mg base 2 C "are_one" ["self", "one", "other"] (N44.spAreOne C)) : FnOk P w K mg base CX0 7 f fd ["work", "name", "names"] (spSO C) := by
  obtain ⟨fO, fdO, mtO, okO, bdO⟩ := cAo.ex
  refine okN F scSpanOf (fun vs H Q E h => ?_) (fun cdv A outer s H vs Q E hr h => ?_)
  · obtain ⟨v, nv, nm, w, m, g, rfl, or_, wk, hd, hl, an, hm, am, q⟩ := h
    rfl
  · obtain ⟨v, nv, nm, w, m, g, rfl, or_, wk, hd, hl, an, hm, am, q⟩ := h
    refine ⟨_, (pss_cons (ps_for PassesOwn.never rfl (pi_list (pe_ca cSI hr (by decide) (by rfl) (pa_cons (pv 0) (pa_cons pe_int pa_nil)))) (pg_tup (by rfl) (pgs_cons (pg_name (i := 3) scSpanOf.nd rfl (.inl rfl)) (pgs_cons (pg_name (i := 4) scSpanOf.nd rfl (.inl rfl)) pgs_nil))) (pss_one (ps_if (PW.pt (pw_or (pt_cmpR (op_eqD hr.units) (pv 3) (pv 1) (nomark _)) (pw_or1 (PW.pt (pw_and (pt_cmpR op_notN (pv 2) pe_non (nomark _)) (pw_and1 (pt_val (pe_meth (pv 2) hC mtO okO (hr.mono (by decide)) bdO .nil pass0 (pa_cons (pv 3) (pa_cons (pv 1) pa_nil)))))))))) (pss_one (ps_ret (pv 4))) pss_nil)))
      (pss_one (ps_ret pe_non))), ?_⟩
    have hn := nl_nms w
    have np := nl_pos w
    refine ⟨_, rfl, v, w, 0, rfl, wk, by show w.dp ≤ 4 + 1; omega, by omega, Int.le_refl _, by omega, fun L xs H1 s1 nL eL rl => ?_⟩
    have or1 := or_.same s1
    have hm1 := hm.tp (tp_same s1)
    refine ⟨L, rfl, ⟨_, SqL.of eL⟩, for_list (K := K) (a := L) (xs := xs) (fun i σ Hx => L2.Same H1 Hx ∧ (∃ c3 c4 : Option V, σ = [some v, some nv, some nm, c3, c4]) ∧ ∀ r ∈ (sps w 0).take i, g r.1 m = false) ⟨Same.refl _, ⟨_, _, rfl⟩, fun r hr => by cases hr⟩ (fun i σ Hi _ z => SqL.of (z.1 _ _ eL)) ?_ ?_⟩
    · rintro i x σ Hx hx ⟨sx, ⟨c3, c4, rfl⟩, no⟩
      obtain ⟨r, er, t, u, n0, rfl, et1, nm1, eu1⟩ := rl.get hx
      have et := sx _ _ et1
      have nmx := nm1.tp (tp_same sx)
      have eu := sx _ _ eu1
      have hmx := hm1.tp (tp_same sx)
      have orx := or1.same sx
      refine ⟨t, _, rfl, SqT.of et, rfl, _, _, rfl, _, _, rfl, rfl, ?_⟩
      have ar : An r.1 := an r.1 (by rw [← sps_nms w 0]; exact List.mem_map_of_mem (List.mem_of_getElem? er))
      have found : ∀ Hy, L2.Same Hx Hy → g r.1 m = true → Q (.ref u) Hy := fun Hy sy c => by
        refine q _ _ ((s1.trans sx).trans sy) ?_
        have fd : (sps w 0).find? (fun r => g r.1 m) = some r := by
          rw [List.find?_eq_some_iff_getElem]
          obtain ⟨lt, e1⟩ := List.getElem?_eq_some_iff.mp er
          refine ⟨c, i, lt, e1, fun j hj => ?_⟩
          have := no ((sps w 0)[j]'(by omega)) (List.mem_take_iff_getElem.mpr ⟨j, by omega, rfl⟩)
          simp [this]
        unfold spG
        rw [fd]
        exact ⟨u, rfl, sy _ _ eu⟩
      have go : ∀ Hy, L2.Same Hx Hy → g r.1 m = false → ∀ c3 c4, L2.Same H1 Hy ∧ (∃ c3' c4' : Option V, [some v, some nv, some nm, c3, c4] = [some v, some nv, some nm, c3', c4']) ∧ ∀ r ∈ (sps w 0).take (i + 1), g r.1 m = false := fun Hy sy c c3 c4 => by
        refine ⟨sx.trans sy, ⟨_, _, rfl⟩, fun r2 hr => ?_⟩
        rw [List.take_add_one, er] at hr
        rcases List.mem_append.mp hr with z | z
        · exact no r2 z
        · rw [List.mem_singleton.mp z]; exact c
      refine ⟨_, rfl, _, rfl, nD r.1, nD m, nm_dp nmx, nm_dp hmx, shaped_nm ar, shaped_nm am, ?_⟩
      rw [eqv_nD]
      by_cases c : r.1 = m
      · rw [decide_eq_true c]
        have gc : g r.1 m = true := by rw [c]; exact orx.refl m
        exact ⟨_, rfl, iteT (iteT ⟨_, rfl, found Hx (Same.refl _) gc⟩)⟩
      · rw [decide_eq_false c]
        cases orx with
        | non => exact ⟨_, rfl, iteF ⟨_, rfl, rfl, _, rfl, iteF (iteF (go Hx (Same.refl _) (decide_eq_false c) _ _))⟩⟩
        | @book b dx gg fs es e lg lc lo gp gd =>
          refine ⟨_, rfl, iteF ⟨_, rfl, rfl, _, rfl, iteT ?_⟩⟩
          refine ⟨_, rfl, b, dx, fs, rfl, e, lo, _, rfl, _, rfl, b, dx, gg, fs, n0, nv, es, r.1, m, rfl, e, lg, lc, gp, nmx, hmx, ar, am, gd, fun Hy sy => ?_⟩
          cases o : N44.oneB es r.1 m with
          | true => exact ⟨true, rfl, iteT ⟨_, rfl, found Hy sy o⟩⟩
          | false => exact ⟨false, rfl, iteF (go Hy sy o _ _)⟩
    · rintro σ Hx ⟨sx, ⟨c3, c4, rfl⟩, no⟩
      refine q _ _ (s1.trans sx) ?_
      have fd : (sps w 0).find? (fun r => g r.1 m) = none := by
        rw [List.find?_eq_none]
        intro r hr
        have := no r (by rw [List.take_of_length_le (by have := rl.len; omega)]; exact hr)
        simp [this]
      unfold spG
      rw [fd]
      rfl
theorem ok_sos {f : Addr} {fd : FuncData} {C : Addr} (D : Df K mg "spans_of" ["work", "titles", "names"] sSpansOf f fd) (T : Txt mg) (cSO : Ca P w K mg base 7 "span_of" ["work", "name", "names"] (spSO C)) : FnOk P w K mg base CX0 8 f fd ["work", "titles", "names"] (spSOs K C) := by
  refine D.fn.ok scSpansOf (fun vs H Q E h => ?_) (fun cdv A outer s H vs Q E hr h => ?_)
  · obtain ⟨v, T0, xs, w, ts, nm, g, rfl, or_, wk, hd, hl, an, eT, tl, l30, at_, q⟩ := h
    rfl
  · obtain ⟨v, T0, xs, w, ts, nm, g, rfl, or_, wk, hd, hl, an, eT, tl, l30, at_, q⟩ := h
    refine ⟨_, (pss_one (ps_ret (pe_lc (own := [("title", 3)]) (g := gName 3) (tt := tYes) (by rfl) scSpansOf.nd (pi_tup (pv 1)) (blkOk_by (own := [("title", 3)]) (N := ["work", "titles", "names", "title"]) (sc := defScope sSpansOf) (by decide +kernel)) (fun _ _ _ _ _ => pg_name (i := 3) scSpansOf.nd rfl (.inl rfl)) (fun _ _ _ _ _ => pts_nil) (fun _ _ _ _ _ => pe_ifExp (pt_cmpR op_isN (pv 3) pe_non (nomark _)) pe_non (pe_ca cSO hr (by decide) (by rfl) (pa_cons (pv 0) (pa_cons (pv 3) (pa_cons (pv 2) pa_nil)))))))), ?_⟩
    refine ⟨_, rfl, T0, rfl, ⟨_, eT⟩, fun D nD' => ?_⟩
    have sD := same_upd nD' (o := .lst [])
    refine lc_tup (K := K) (a := T0) (xs := xs) (fun i Hi => L2.Same H Hi ∧ ∃ ys, Hi D = some (.lst ys) ∧ Lp (SpV Hi) ys ((ts.take i).map fun t => t.bind (spG g w))) ⟨sD, [], upd_same, .nil⟩ (fun i Hi _ z => Xlm.sqT_extN (LamX.ExtN.of z.1) eT) ?_ ?_
    · rintro i x Hi hx ⟨sm, ys, eD, lp⟩
      obtain ⟨o, eo, tv⟩ := tl.get hx
      have il := (List.getElem?_eq_some_iff.mp eo).1
      have yl := lp.len
      rw [List.length_map, List.length_take] at yl
      have fin : ∀ (r : V) (H2 : Hp), L2.Same Hi H2 → SpV H2 r (o.bind (spG g w)) → ∃ acc, H2 D = some (.lst acc) ∧ acc.length < sizeLine ∧ (L2.Same H (upd H2 D (.lst (acc ++ [r]))) ∧ ∃ zs, (upd H2 D (.lst (acc ++ [r]))) D = some (.lst zs) ∧ Lp (SpV (upd H2 D (.lst (acc ++ [r])))) zs ((ts.take (i + 1)).map fun t => t.bind (spG g w))) := fun r H2 s2 sp => by
        have e2 := s2 _ _ eD
        have tp : Tp H2 (upd H2 D (.lst (ys ++ [r]))) := tp_upd fun us z => by rw [e2] at z; cases z
        refine ⟨ys, e2, Nat.lt_of_le_of_lt (show ys.length ≤ 30 by omega) (by decide), fun b o e => ?_, ys ++ [r], upd_same, ?_⟩
        · rw [upd_ne (ne_of_none e nD')]
          exact s2 _ _ (sm _ _ e)
        · rw [List.take_add_one, eo, List.map_append]
          exact (lp.map fun v a h => h.tp ((tp_same s2).trans tp)).snoc (sp.tp tp)
      refine ⟨rfl, ?_⟩
      unfold tYes
      refine iteT ?_
      cases o with
      | none =>
        obtain rfl : x = .non := tv
        exact ⟨_, rfl, rfl, _, rfl, iteT (fin .non Hi (Same.refl _) rfl)⟩
      | some m =>
        obtain ⟨t, rfl, et⟩ := id (show NmV H x m from tv)
        refine ⟨_, rfl, rfl, _, rfl, iteF ⟨_, rfl, _, rfl, _, rfl, v, .ref t, nm, w, m, g, rfl, or_.same sm, wk.tp (tp_same sm), hd, hl, an, NmV.tp ⟨t, rfl, et⟩ (tp_same sm), at_ m (List.mem_of_getElem? eo), fun r H2 s2 sp => fin r H2 s2 sp⟩⟩
    · rintro He ⟨sm, ys, eD, lp⟩
      rw [List.take_of_length_le (by have := tl.len; omega)] at lp
      exact q D ys He sm nD' eD lp
theorem ok_lw {f : Addr} {fd : FuncData} (D : Df K mg "leaves_within" ["span"] sLeavesWithin f fd)  : FnOk P w K mg base CX0 1 f fd ["span"] spLW := by
  refine D.fn.ok scLeavesWithin (fun vs H Q E h => ?_) (fun cdv A outer s H vs Q E hr h => ?_)
  · obtain ⟨u, s, rfl, eu, q⟩ := h
    rfl
  · obtain ⟨u, s, rfl, eu, q⟩ := h
    refine ⟨_, (pss_one (ps_ret (pe_op op_sub (pe_ix ix_tup (pv 0) pe_int (fun _ _ => rfl)) (pe_ix ix_tup (pv 0) pe_int (fun _ _ => rfl))))), ?_⟩
    exact ⟨_, rfl, u, _, 1, .int s.2, rfl, rfl, SqT.of eu, rfl, _, rfl, u, _, 0, .int s.1, rfl, rfl, SqT.of eu, rfl, _, _, rfl, rfl, q⟩
theorem ok_ah {f : Addr} {fd : FuncData} (D : Df K mg "is_ahead" ["one", "other"] sIsAhead f fd)  : FnOk P w K mg base CX0 1 f fd ["one", "other"] spAh := by
  refine D.fn.ok scIsAhead (fun vs H Q E h => ?_) (fun cdv A outer s H vs Q E hr h => ?_)
  · obtain ⟨u, t, s, r, rfl, eu, et, q⟩ := h
    rfl
  · obtain ⟨u, t, s, r, rfl, eu, et, q⟩ := h
    refine ⟨_, (pss_one (ps_ret (pe_cmpR op_le (pe_ix ix_tup (pv 0) pe_int (fun _ _ => rfl)) (pe_ix ix_tup (pv 1) pe_int (fun _ _ => rfl)) (nomark _)))), ?_⟩
    exact ⟨_, rfl, u, _, 1, .int s.2, rfl, rfl, SqT.of eu, rfl, _, rfl, t, _, 0, .int r.1, rfl, rfl, SqT.of et, rfl, _, _, rfl, rfl, q⟩
end
end K44
set_option Elab.async false
set_option linter.all false
set_option maxRecDepth 100000
set_option maxHeartbeats 4000000
set_option pp.maxSteps 400
set_option pp.deepTerms false
namespace K44
open PySem PySem.Spec PyProof.Rows L2
open Xk Az W37
section
variable {P : Program} {w : World} {K : PySem.W.Frag} {mg : Str → Option Value} {base : Heap}
theorem exT {H H' : Hp} (x : LamX.ExtN H H') {b : Addr} {ys : List V} (e : H b = some (.tup ys)) : H' b = some (.tup ys) := x _ _ e fun ps z => by cases z
theorem exTp {H H' : Hp} (x : LamX.ExtN H H') : Tp H H' := fun b ys e => exT x e
theorem exL {H H' : Hp} (x : LamX.ExtN H H') {b : Addr} {ys : List V} (e : H b = some (.lst ys)) : H' b = some (.lst ys) := x _ _ e fun ps z => by cases z
theorem exD {H H' : Hp} (x : LamX.ExtN H H') {b : Addr} {ys : List (Key × V)} (e : H b = some (.dK ys)) : H' b = some (.dK ys) := x _ _ e fun ps z => by cases z
theorem tabs_lst {T : List (Addr × Str)} {H : Hp} {D : Addr} {us : List V} {o : HO} (t : LamX.Tabs T H) (e : H D = some (.lst us)) : LamX.Tabs T (upd H D o) := fun p hp => by
  obtain ⟨ps, h1, h2, h3⟩ := t p hp
  refine ⟨ps, by rw [upd_ne (ne_of h1 e (by intro z; cases z))]; exact h1, h2, fun pos cv hc => ?_⟩
  obtain ⟨c, e1, e2⟩ := h3 pos cv hc
  exact ⟨c, e1, by rw [upd_ne (ne_of e2 e (by intro z; unfold LamX.CodeO at z; cases z))]; exact e2⟩
def qB : Str := (("best_of" : Str) ++ ".<locals>.") ++ "<lambda>"
abbrev Tb (pB : Addr) : List (Addr × Str) := [(pB, qB)]
theorem ok_code {x : Str} {st : Stmt} {f : Addr} {fd : FuncData} {N ps : List Str} {k : Nat} {sp : Sp} {c : Addr} (F : Fun K x x st f fd) (hc : fd.code = .ref c) (S : FnScope N ps (defScope st)) (len : ∀ vs H Q E, sp vs H Q E → vs.length = ps.length)
    (body : ∀ (A : Around) (outer : List Env) (s : Shared) (H : Hp) (vs : List V) (Q : VK) (E : XK), Room k (A.deeper (envOfC x (defScope st) s.heap.objs.size f (.ref c))) → sp vs H Q E →
      ∃ t, PSs (cxOf CX0 P w K mg base N x (defScope st) f (.ref c) A outer s H E).nox (defBody st) t ∧ t { nx := fun _ H' => Q .non H', rt := Q } (start N vs) H) : FnOk P w K mg base CX0 (k + 1) f fd ps sp := by
  obtain ⟨oc, od, kV, doc, pm, an, cdv, ct, osl, rfl, lk, hcd⟩ := F.ex
  obtain rfl : cdv = .ref c := hc
  refine ⟨len, fun A outer s H args us vs Q E hr e0 hb r hsp => LamX.run_ofS lk hcd S hr e0 hb r (len _ _ _ _ hsp) fun hr' => ?_⟩
  obtain ⟨t, ht, hq⟩ := body A outer s H vs Q E hr' hsp
  exact ⟨t, ht.nox, hq⟩
abbrev Pr := Int × List Int
def PrV (H : Hp) (v : V) (p : Pr) : Prop := ∃ t u : Addr, v = .ref t ∧ H t = some (.tup [.int p.1, .ref u]) ∧ H u = some (.tup (p.2.map V.int))
theorem PrV.tp {H H' : Hp} {v : V} {p : Pr} (h : PrV H v p) (s : Tp H H') : PrV H' v p := by
  obtain ⟨t, u, rfl, e1, e2⟩ := h
  exact ⟨t, u, rfl, s _ _ e1, s _ _ e2⟩
theorem int_inj : ∀ {a b : List Int}, a.map V.int = b.map V.int → a = b
  | [], [], _ => rfl
  | x :: a, y :: b, h => by
    rw [List.map_cons, List.map_cons] at h
    injection h with h1 h2
    injection h1 with h1
    rw [h1, int_inj h2]
  | [], _ :: _, h => by cases h
  | _ :: _, [], h => by cases h
theorem PrV.uniq {H : Hp} {v : V} {p q : Pr} (h : PrV H v p) (h2 : PrV H v q) : p = q := by
  obtain ⟨t, u, rfl, e1, e2⟩ := h
  obtain ⟨t', u', e0, e3, e4⟩ := h2
  injection e0 with e0
  subst e0
  rw [e1] at e3
  injection e3 with e3
  injection e3 with e3
  injection e3 with a b
  injection b with b _
  injection b with b
  injection a with a
  subst b
  rw [e2] at e4
  injection e4 with e4
  injection e4 with e4
  exact Prod.ext a (int_inj e4)
open Classical in
noncomputable def kdP (H : Hp) (v : V) : PyData := if h : ∃ p, PrV H v p then Xt.pairD (-(Classical.choose h).1, (Classical.choose h).2) else .none
theorem kdP_eq {H : Hp} {v : V} {p : Pr} (h : PrV H v p) : kdP H v = Xt.pairD (-p.1, p.2) := by
  unfold kdP
  have e : ∃ p, PrV H v p := ⟨p, h⟩
  rw [dif_pos e]
  have := (Classical.choose_spec e).uniq h
  rw [this]
def KyP (H : Hp) (y : V) (d : PyData) : Prop := ∃ p, PrV H y p ∧ d = Xt.pairD p
theorem dzAll_ints {H : Hp} : ∀ ns : List Int, DzAll K H (ns.map V.int) (ns.map PyData.int)
  | [] => .nil
  | i :: r => .cons (.int i) (dzAll_ints r)
theorem ky_dz (H : Hp) (y : V) (d : PyData) (h : KyP H y d) : Dz K H y d := by
  obtain ⟨p, ⟨t, u, rfl, e1, e2⟩, rfl⟩ := h
  exact .tup e1 (.cons (.int _) (.cons (.tup e2 (dzAll_ints _)) .nil))
theorem ky_keep (H H' : Hp) (y : V) (d : PyData) (k : ∀ b zs, H b = some (.tup zs) → H' b = some (.tup zs)) (h : KyP H y d) : KyP H' y d := by
  obtain ⟨p, h, e⟩ := h
  exact ⟨p, h.tp k, e⟩
theorem plt_irr (p : Pr) : Xt.pairLt p p = false := by
  unfold Xt.pairLt
  rw [decide_eq_false_iff_not]
  rintro (h | ⟨_, h⟩)
  · omega
  · exact List.lt_irrefl _ h
theorem plt_trans {p q r : Pr} (h1 : Xt.pairLt p q = true) (h2 : Xt.pairLt q r = true) : Xt.pairLt p r = true := by
  unfold Xt.pairLt at h1 h2 ⊢
  rw [decide_eq_true_eq] at h1 h2 ⊢
  rcases h1 with a | ⟨a, b⟩
  · rcases h2 with c | ⟨c, d⟩
    · exact .inl (by omega)
    · exact .inl (by omega)
  · rcases h2 with c | ⟨c, d⟩
    · exact .inl (by omega)
    · exact .inr ⟨by omega, List.lt_trans b d⟩
def spBO (K : PySem.W.Frag) (pB : Addr) : Sp := fun vs H Q _ => ∃ (L : Addr) (xs : List V) (ps : List Pr), vs = [.ref L] ∧ SqL K H L xs ∧ Lp (PrV H) xs ps ∧ ps.length ≤ 60 ∧ LamX.Tabs (Tb pB) H ∧
  ∀ v p H', LamX.ExtN H H' → LamX.Tabs (Tb pB) H' → PrV H' v p → (p = (0, []) ∨ p ∈ ps) → 0 ≤ p.1 → (∀ q ∈ ps, q.1 ≤ p.1) → (∀ q, (q = (0, []) ∨ q ∈ ps) → q.1 = p.1 → ¬ q.2 < p.2) → Q v H'
theorem ok_bo {f : Addr} {fd : FuncData} {cB pB : Addr} (D : Df K mg "best_of" ["choices"] sBestOf f fd) (hcd : fd.code = .ref cB) (TB : LamX.TabB base mg cB pB) (T : Txt mg) : FnOk P w K mg base CX0 5 f fd ["choices"] (spBO K pB) := by
  refine ok_code D.fn hcd scBestOf (fun vs H Q E h => ?_) (fun A outer s H vs Q E hr h => ?_)
  · obtain ⟨L, xs, ps, rfl, eL, lp, l60, tb, q⟩ := h
    rfl
  · obtain ⟨L, xs, ps, rfl, eL, lp, l60, tb, q⟩ := h
    refine ⟨_, (pss_one (ps_ret (Xll.pe_minLamL (T := Tb pB) (Ky := KyP) (tb := tTup (tCons (tUn (rU fun i => .int (-i)) (tOp (rIxT K) (tVar 0) (tC (.int 0)))) (tCons (tOp (rIxT K) (tVar 0) (tC (.int 1))) tNil))) (k := 1) (pn := "known") (c := cB) (P := pB) (by rfl) T.min rfl (hr.mono (by omega)) (pe_lst (pa_cons (pe_tup (pa_cons pe_int (pa_cons (pe_tup pa_nil) pa_nil))) (Xvl.pa_starL (pv 0) pa_nil))) TB (by rfl) (List.mem_singleton.mpr rfl) (fun p hp _ => by rw [List.mem_singleton.mp hp]; rfl) (show Xln.Lam1 (defScope sBestOf) _ _ from ⟨rfl, rfl, rfl, rfl, by decide +kernel, by decide +kernel⟩) (show ("known" : Str) ∉ (["choices"] : List Str) from by decide +kernel) rfl (fun _ _ _ _ _ _ => rfl) (fun A s H f c hr => pe_tup (pa_cons (pe_un un_neg (pe_ix ix_tup (pv 0) pe_int (fun _ _ => rfl))) (pa_cons (pe_ix ix_tup (pv 0) pe_int (fun _ _ => rfl)) pa_nil))) ky_dz ky_keep))), ?_⟩
    have pl := lp.len
    refine ⟨(by show 0 ≤ sizeLine; decide), fun z nz => ⟨(by show 2 ≤ sizeLine; decide), fun z2 nz2 => ?_⟩⟩
    have s1 := same_upd nz (o := .tup [])
    have s2 := same_upd nz2 (o := .tup [.int 0, .ref z])
    have pz : PrV (L2.upd (L2.upd H z (.tup [])) z2 (.tup [.int 0, .ref z])) (.ref z2) (0, []) := ⟨z2, z, rfl, upd_same, s2 _ _ upd_same⟩
    have s12 := s1.trans s2
    generalize L2.upd (L2.upd H z (.tup [])) z2 (.tup [.int 0, .ref z]) = H1 at s12 pz ⊢
    refine ⟨_, rfl, L, xs, rfl, Xll.sqL_extN (LamX.ExtN.of s12) eL, ?_⟩
    refine ⟨Nat.le_trans (show _ ≤ 100 from ?_) (by decide), fun M nM => ?_⟩
    · rw [List.length_cons, List.length_append]
      show xs.length + 0 + 1 ≤ 100
      omega
    have s3 := same_upd nM (o := .lst (.ref z2 :: (xs ++ [])))
    have eM : (L2.upd H1 M (.lst (.ref z2 :: (xs ++ [])))) M = some (.lst (.ref z2 :: (xs ++ []))) := upd_same
    generalize L2.upd H1 M (.lst (.ref z2 :: (xs ++ []))) = H2 at s3 eM ⊢
    have s13 := s12.trans s3
    have all : ∀ v ∈ (V.ref z2 :: (xs ++ [])), ∃ p, PrV H2 v p ∧ (p = (0, []) ∨ p ∈ ps) := fun v hv => by
      rw [List.append_nil] at hv
      rcases List.mem_cons.mp hv with w | w
      · rw [w]; exact ⟨_, pz.tp (tp_same s3), .inl rfl⟩
      · obtain ⟨p, hp, r⟩ := lp.mem w
        exact ⟨p, r.tp (tp_same s13), .inr hp⟩
    refine ⟨M, _, kdP H2, rfl, SqL.of eM, (by simp), tb.ext s13, ?_, ?_, ?_, ?_, ?_, ?_⟩
    · intro v hv v' hv'
      obtain ⟨p, hp, _⟩ := all v hv
      obtain ⟨p', hp', _⟩ := all v' hv'
      rw [kdP_eq hp, kdP_eq hp']
      exact (Xt.alike_pairs (-p.1, p.2) (-p'.1, p'.2)).1 _ (by simp) _ (by simp)
    · intro v hv
      obtain ⟨p, hp, _⟩ := all v hv
      rw [kdP_eq hp]
      refine ⟨(Xt.alike_pairs (-p.1, p.2) (-p.1, p.2)).2 _ (by simp), ?_⟩
      simp [Xt.pairD, PyData.depth, PyData.depthAll, Xt.depth_ints]
    · intro v hv
      obtain ⟨p, hp, _⟩ := all v hv
      rw [kdP_eq hp, Xt.lt_pairs]
      exact plt_irr _
    · intro a ha b hb c hc
      obtain ⟨p, hp, _⟩ := all a ha
      obtain ⟨p', hp', _⟩ := all b hb
      obtain ⟨p'', hp'', _⟩ := all c hc
      rw [kdP_eq hp, kdP_eq hp', kdP_eq hp'', Xt.lt_pairs, Xt.lt_pairs, Xt.lt_pairs]
      exact plt_trans
    · intro H3 x3 t3 v hv
      obtain ⟨p, hp, _⟩ := all v hv
      obtain ⟨t, u, rfl, e1, e2⟩ := id hp
      refine ⟨_, rfl, t, _, 0, .int p.1, rfl, rfl, SqT.of (exT x3 e1), rfl, _, rfl, ?_⟩
      refine ⟨_, rfl, t, _, 1, .ref u, rfl, rfl, SqT.of (exT x3 e1), rfl, (by show 2 ≤ sizeLine; decide), fun q2 nq => ?_⟩
      have sq := same_upd nq (o := .tup [.int (-p.1), .ref u])
      exact ⟨LamX.ExtN.of sq, t3.ext sq, (-p.1, p.2), ⟨q2, u, rfl, upd_same, sq _ _ (exT x3 e2)⟩, kdP_eq hp⟩
    · intro v hv hmin H3 x3 t3
      obtain ⟨p, hp, cp⟩ := all v hv
      have le : ∀ v' ∈ (V.ref z2 :: (xs ++ [])), ∀ p', PrV H2 v' p' → p'.1 ≤ p.1 := fun v' hv' p' hp' => by
        have h := hmin v' hv'
        rw [kdP_eq hp, kdP_eq hp', Xt.lt_pairs] at h
        unfold Xt.pairLt at h
        rw [decide_eq_false_iff_not] at h
        by_cases c : p'.1 ≤ p.1
        · exact c
        · exact absurd (.inl (show -p'.1 < -p.1 by omega)) h
      have ls : ∀ v' ∈ (V.ref z2 :: (xs ++ [])), ∀ p', PrV H2 v' p' → p'.1 = p.1 → ¬ p'.2 < p.2 := fun v' hv' p' hp' e1 e2 => by
        have h := hmin v' hv'
        rw [kdP_eq hp, kdP_eq hp', Xt.lt_pairs] at h
        unfold Xt.pairLt at h
        rw [decide_eq_false_iff_not] at h
        exact h (.inr ⟨by show -p'.1 = -p.1; omega, e2⟩)
      refine q v p H3 ((LamX.ExtN.of s13).trans x3) t3 (hp.tp (exTp x3)) cp (le _ List.mem_cons_self _ (pz.tp (tp_same s3))) (fun p' hp' => ?_) fun p' hp' => ?_
      · obtain ⟨i, hi⟩ := List.getElem?_of_mem hp'
        obtain ⟨v', ev, r⟩ := lp.at_ hi
        exact le v' (List.mem_cons_of_mem _ (by rw [List.append_nil]; exact List.mem_of_getElem? ev)) p' (r.tp (tp_same s13))
      · rcases hp' with z | hp'
        · rw [z]
          exact ls _ List.mem_cons_self _ (pz.tp (tp_same s3))
        · obtain ⟨i, hi⟩ := List.getElem?_of_mem hp'
          obtain ⟨v', ev, r⟩ := lp.at_ hi
          exact ls v' (List.mem_cons_of_mem _ (by rw [List.append_nil]; exact List.mem_of_getElem? ev)) p' (r.tp (tp_same s13))
end
end K44
set_option Elab.async false
set_option linter.all false
set_option maxRecDepth 100000
set_option maxHeartbeats 4000000
set_option pp.maxSteps 400
set_option pp.deepTerms false
namespace K44
open PySem PySem.Spec PyProof.Rows L2
open Xk Az W37
section
variable {P : Program} {w : World} {K : PySem.W.Frag} {mg : Str → Option Value} {base : Heap}
/-- a dict with the best of the choices that begin at k or behind -/
structure BestD (H : Hp) (S : Spl) (k : Nat) (kvs : List (Key × V)) : Prop where
  len : kvs.length ≤ S.length - k
  val : ∀ kv ∈ kvs, ∃ j : Nat, k ≤ j ∧ kv.1 = .inl (j : Int) ∧ ∃ m is, Best S j m is ∧ PrV H kv.2 (m, toI is)
  all : ∀ j s, k ≤ j → S[j]? = some (some s) → ∃ kv ∈ kvs, kv.1 = .inl (j : Int)
theorem BestD.tp {H H' : Hp} {S : Spl} {k : Nat} {kvs : List (Key × V)} (b : BestD H S k kvs) (s : Tp H H') : BestD H' S k kvs :=
  ⟨b.len, fun kv h => by
    obtain ⟨j, a, c, m, is, d, p⟩ := b.val kv h
    exact ⟨j, a, c, m, is, d, p.tp s⟩, b.all⟩
theorem valV_mem {kvs : List (Key × V)} {k : Key} {v : V} (h : valV kvs k = some v) : (k, v) ∈ kvs := by
  unfold valV at h
  obtain ⟨kv, e, rfl⟩ := Option.map_eq_some_iff.mp h
  have p := List.find?_some e
  have p : kv.1 = k := of_decide_eq_true p
  rw [← p]
  exact List.mem_of_find?_eq_some e
theorem valV_has {kvs : List (Key × V)} {kv : Key × V} (h : kv ∈ kvs) : ∃ v, valV kvs kv.1 = some v := by
  cases e : valV kvs kv.1 with
  | some v => exact ⟨v, rfl⟩
  | none =>
    unfold valV at e
    rw [Option.map_eq_none_iff, List.find?_eq_none] at e
    have := e kv h
    simp at this
theorem inl_inj {a b : Nat} (h : (Sum.inl (a : Int) : Key) = .inl (b : Int)) : a = b := by
  injection h with h
  omega
theorem Pk.len {S : Spl} : ∀ {k : Nat} {is : List Nat} {l : List S2}, Pk S k is l → is.length = l.length
  | _, _, _, .nil _ => rfl
  | _, _, _, .cons _ _ r => congrArg Nat.succ r.len
theorem Best.at_ {S : Spl} {j : Nat} {m : Int} {is : List Nat} (b : Best S j m is) : ∃ s, S[j]? = some (some s) := by
  obtain ⟨l, p, _, _⟩ := b.ex
  obtain ⟨r, rfl⟩ := b.hd
  cases p with
  | cons h e q => exact ⟨_, e⟩
theorem Best.uniq {S : Spl} {j : Nat} {m m' : Int} {is is' : List Nat} (a : Best S j m is) (b : Best S j m' is') : m = m' := by
  obtain ⟨l, p, c, e⟩ := a.ex
  obtain ⟨r, rfl⟩ := a.hd
  obtain ⟨l', p', c', e'⟩ := b.ex
  obtain ⟨r', rfl⟩ := b.hd
  have x := a.top _ _ p' c'
  have y := b.top _ _ p c
  omega
theorem Best.uniq2 {S : Spl} {j : Nat} {m : Int} {is is' : List Nat} (a : Best S j m is) (b : Best S j m is') : is = is' := by
  obtain ⟨l, p, c, e⟩ := a.ex
  obtain ⟨r, rfl⟩ := a.hd
  obtain ⟨l', p', c', e'⟩ := b.ex
  obtain ⟨r', rfl⟩ := b.hd
  exact lx_uniq (b.lst _ _ p c e) (a.lst _ _ p' c' e')
theorem tabs_dk {T : List (Addr × Str)} {H : Hp} {D : Addr} {us : List (Key × V)} {o : HO} (t : LamX.Tabs T H) (e : H D = some (.dK us)) : LamX.Tabs T (upd H D o) := fun p hp => by
  obtain ⟨ps, h1, h2, h3⟩ := t p hp
  refine ⟨ps, by rw [upd_ne (ne_of h1 e (by intro z; cases z))]; exact h1, h2, fun pos cv hc => ?_⟩
  obtain ⟨c, e1, e2⟩ := h3 pos cv hc
  exact ⟨c, e1, by rw [upd_ne (ne_of e2 e (by intro z; unfold LamX.CodeO at z; cases z))]; exact e2⟩
theorem tabs_fz {T : List (Addr × Str)} {H : Hp} {D : Addr} {od : Obj} {u : HO} {o : HO} (t : LamX.Tabs T H) (e : H D = some (.frz od u)) : LamX.Tabs T (upd H D o) := fun p hp => by
  obtain ⟨ps, h1, h2, h3⟩ := t p hp
  refine ⟨ps, by rw [upd_ne (ne_of h1 e (by intro z; cases z))]; exact h1, h2, fun pos cv hc => ?_⟩
  obtain ⟨c, e1, e2⟩ := h3 pos cv hc
  exact ⟨c, e1, by rw [upd_ne (ne_of e2 e (by intro z; unfold LamX.CodeO at z; cases z))]; exact e2⟩
def spBB (K : PySem.W.Frag) (pB : Addr) : Sp := fun vs H Q _ => ∃ (L : Addr) (xs : List V) (S : Spl), vs = [.ref L] ∧ SqL K H L xs ∧ Lp (SpV H) xs S ∧ S.length ≤ 30 ∧ Pos S ∧ LamX.Tabs (Tb pB) H ∧
  ∀ (D : Addr) kvs H', LamX.ExtN H H' → LamX.Tabs (Tb pB) H' → H' D = some (.dK kvs) → BestD H' S 0 kvs → Q (.ref D) H'
theorem ok_bb {f : Addr} {fd : FuncData} {pB : Addr} (D : Df K mg "best_by_first" ["spans"] sBestByFirst f fd) (T : Txt mg) (cBO : Ca P w K mg base 5 "best_of" ["choices"] (spBO K pB)) (cLW : Ca P w K mg base 1 "leaves_within" ["span"] spLW) (cAh : Ca P w K mg base 1 "is_ahead" ["one", "other"] spAh) : FnOk P w K mg base CX0 6 f fd ["spans"] (spBB K pB) := by
  refine D.fn.ok scBestByFirst (fun vs H Q E h => ?_) (fun cdv A outer s H vs Q E hr h => ?_)
  · obtain ⟨L, xs, S, rfl, eL, lp, l30, ps, tb, q⟩ := h
    rfl
  · obtain ⟨L, xs, S, rfl, eL, lp, l30, ps, tb, q⟩ := h
    refine ⟨_, (pss_cons (ps_set (i := 1) scBestByFirst.nd rfl (.inr rfl) pe_dnewK)
      (pss_cons (ps_for PassesOwn.never rfl (pi_revR (by rfl) T.reversed (prg_1 (by rfl) T.range (pe_callB call_len_seq (by rfl) T.len PySem.boot_len (pa_cons (pv 0) pa_nil)))) (pg_name (i := 2) scBestByFirst.nd rfl (.inl rfl)) (pss_cons (ps_set (i := 3) scBestByFirst.nd rfl (.inr rfl) (pe_ix ix_list (pv 0) (pv 2) (fun _ _ => rfl)))
      (pss_one (ps_if (pt_cmpR op_notN (pv 3) pe_non (nomark _)) (pss_cons (ps_asg (pe_ca cBO hr (by decide) (by rfl) (pa_cons (pe_lock (pe_lc (own := [("later", 6)]) (g := gName 6) (tt := tTest (tCall spAh [] E0 (tCons (tVar 3) (tCons (tOp (rIxL K) (tVar 0) (tVar 6)) tNil)))) (te := tDGet (tVar 1) (tVar 6)) (by rfl) scBestByFirst.nd (pi_keys (pv 1)) (blkOk_by (own := [("later", 6)]) (N := ["spans", "best", "number", "span", "many", "rest", "later"]) (sc := defScope sBestByFirst) (by decide +kernel)) (fun _ _ _ _ _ => pg_name (i := 6) scBestByFirst.nd rfl (.inl rfl)) (fun _ _ _ _ _ => (pts_one (pt_val (pe_ca cAh hr (by decide) (by rfl) (pa_cons (pv 3) (pa_cons (pe_ix ix_list (pv 0) (pv 6) (fun _ _ => rfl)) pa_nil)))))) (fun _ _ _ _ _ => pe_dget (hu_of hr) (pv 1) (pv 6) (fun _ _ => rfl)))) pa_nil)) (pg_tup (by rfl) (pgs_cons (pg_name (i := 4) scBestByFirst.nd rfl (.inl rfl)) (pgs_cons (pg_name (i := 5) scBestByFirst.nd rfl (.inl rfl)) pgs_nil))))
      (pss_one (ps_dput (hu_of hr) (pv 1) (pv 2) (pe_tup (pa_cons (pe_op op_add (pe_ca cLW hr (by decide) (by rfl) (pa_cons (pv 3) pa_nil)) (pv 4)) (pa_cons (pe_tup (pa_cons (pv 2) (Xt.pa_star (pv 5) pa_nil))) pa_nil))) rfl))) pss_nil))))
      (pss_one (ps_ret (pv 1))))), ?_⟩
    have xl := lp.len
    refine fun D nD' => ?_
    have sD := same_upd nD' (o := .dK [])
    have eD : (L2.upd H D (.dK [])) D = some (.dK []) := upd_same
    generalize L2.upd H D (.dK []) = H0 at sD eD ⊢
    refine ⟨_, rfl, L, xs, rfl, .inl (Xll.sqL_extN (LamX.ExtN.of sD) eL), _, rfl, by omega, by omega, by omega, by omega, ?_⟩
    have en : ((xs.length : Nat) : Int) - 0 = ((S.length : Nat) : Int) := by omega
    rw [en, Int.toNat_natCast]
    refine for_it (walk_rangeC (lo := 0 + ((S.length : Nat) : Int) - 1) (c := -1) (n := S.length)) (fun i σ Hx => ∃ (kvs : List (Key × V)) (c2 c3 c4 c5 c6 : Option V), σ = [some (.ref L), some (.ref D), c2, c3, c4, c5, c6] ∧ Hx D = some (.dK kvs) ∧ LamX.ExtN H Hx ∧ LamX.Tabs (Tb pB) Hx ∧ BestD Hx S (S.length - i) kvs)
      ⟨[], none, none, none, none, none, rfl, eD, LamX.ExtN.of sD, tb.ext sD, ⟨Nat.zero_le _, fun kv h => (by cases h), fun j s h e => by have := (List.getElem?_eq_some_iff.mp e).1; omega⟩⟩ (fun _ _ _ _ _ => trivial) ?_ ?_
    · rintro i x σ Hx0 Hx il ⟨kvs, c2, c3, c4, c5, c6, rfl, eDx, xx, tx, bd⟩ ⟨rfl, ex⟩
      obtain ⟨j, hj⟩ : ∃ j : Nat, j + i + 1 = S.length := ⟨S.length - 1 - i, by omega⟩
      have ej : 0 + ((S.length : Nat) : Int) - 1 + (i : Nat) * -1 = ((j : Nat) : Int) := by omega
      have kj : S.length - i = j + 1 := by omega
      have kj2 : S.length - (i + 1) = j := by omega
      rw [kj] at bd
      rw [kj2]
      have ex : x = .int (j : Int) := by rw [ex]; show V.int (0 + ((S.length : Nat) : Int) - 1 + (i : Nat) * -1) = _; rw [ej]
      subst ex
      have jl : j < S.length := by omega
      obtain ⟨vj, evj, spj⟩ := lp.at_ (List.getElem?_eq_getElem jl)
      have spx := spj.tp (exTp xx)
      have eLx := Xll.sqL_extN xx eL
      refine ⟨_, rfl, _, rfl, L, xs, (j : Int), vj, rfl, rfl, eLx, atI_nat evj, ?_⟩
      cases eo : S[j] with
      | none =>
        rw [eo] at spx
        obtain rfl : vj = .non := spx
        refine ⟨_, rfl, rfl, _, rfl, iteF ⟨kvs, _, _, _, _, _, rfl, eDx, xx, tx, ⟨by have := bd.len; omega, fun kv h => ?_, fun j' s h e => ?_⟩⟩⟩
        · obtain ⟨j', a, r⟩ := bd.val kv h
          exact ⟨j', by omega, r⟩
        · by_cases c : j' = j
          · subst c
            rw [List.getElem?_eq_getElem jl, eo] at e
            cases e
          · exact bd.all j' s (by omega) e
      | some s =>
        rw [eo] at spx
        obtain ⟨u, rfl, eu⟩ := spx
        have es : S[j]? = some (some s) := by rw [List.getElem?_eq_getElem jl, eo]
        refine ⟨_, rfl, rfl, _, rfl, iteT ?_⟩
        refine ⟨D, .dK kvs, eDx, trivial, fun od => ?_⟩
        have Df : (L2.upd Hx D (.frz od (.dK kvs))) D = some (.frz od (.dK kvs)) := upd_same
        have tpf : Tp Hx (L2.upd Hx D (.frz od (.dK kvs))) := tp_upd fun us z => by rw [eDx] at z; cases z
        refine ⟨_, rfl, D, od, rfl, .inl ⟨kvs, Df, fun Z nZ => ?_⟩⟩
        have HD : H D = none := nD'
        have ZD : Z ≠ D := fun z => by rw [z, Df] at nZ; cases nZ
        generalize ehf : L2.upd Hx D (.frz od (.dK kvs)) = Hf at Df tpf nZ ⊢
        have lpf : Lp (SpV Hf) xs S := lp.map fun v a h => (h.tp (exTp xx)).tp tpf
        have eLf : SqL K Hf L xs := by
          rcases eLx with (e | ⟨o, e⟩) | e
          · refine .inl (.inl ?_)
            rw [← ehf, upd_ne (ne_of e eDx (by intro z; cases z))]
            exact e
          · refine .inl (.inr ⟨o, ?_⟩)
            rw [← ehf, upd_ne (ne_of e eDx (by intro z; cases z))]
            exact e
          · exact .inr e
        have sZ := same_upd nZ (o := .lst [])
        refine lc_it (walk_keys (d := D) (o := od) (kvs := kvs)) (fun i Hi => L2.Same Hf Hi ∧ ∃ (ys : List V) (ps : List Pr), Hi Z = some (.lst ys) ∧ Lp (PrV Hi) ys ps ∧ ps.length ≤ i ∧ (∀ p ∈ ps, ∃ (jj : Nat) (s' : S2) (is : List Nat), j < jj ∧ S[jj]? = some (some s') ∧ Ah s s' ∧ Best S jj p.1 is ∧ p.2 = toI is) ∧
          ∀ kv ∈ kvs.take i, ∀ (jj : Nat) (s' : S2), kv.1 = .inl (jj : Int) → S[jj]? = some (some s') → Ah s s' → ∃ p ∈ ps, ∃ is, Best S jj p.1 is ∧ p.2 = toI is) ⟨sZ, [], [], upd_same, .nil, Nat.le_refl _, (fun p h => by cases h), fun kv h => (by cases h)⟩ (fun i Hi _ z => z.1 _ _ Df) ?_ ?_
        · rintro i' x Hi0 Hi il' ⟨sm, ys, ps', eZ, lpi, pl, p1, p2⟩ ⟨rfl, k, v, ek, rfl⟩
          have mk := List.mem_of_getElem? ek
          obtain ⟨jj, jle, ekj, m, is, bst, pv2⟩ := bd.val _ mk
          have ekj : k = .inl (jj : Int) := ekj
          subst ekj
          obtain ⟨s', es'⟩ := bst.at_
          obtain ⟨v2, ev2, u2, rfl, eu2⟩ := lpf.at_ es'
          refine ⟨rfl, ?_⟩
          refine ⟨_, rfl, _, rfl, _, rfl, L, xs, (jj : Int), .ref u2, rfl, rfl, Xll.sqL_extN (LamX.ExtN.of sm) eLf, atI_nat ev2, u, u2, s, s', rfl, sm _ _ (tpf _ _ eu), sm _ _ eu2, _, rfl, ?_⟩
          have p2n : ∀ (ps2 : List Pr), (∀ p ∈ ps', p ∈ ps2) → (Ah s s' → ∃ p ∈ ps2, ∃ is, Best S jj p.1 is ∧ p.2 = toI is) → ∀ kv ∈ kvs.take (i' + 1), ∀ (jj : Nat) (s' : S2), kv.1 = .inl (jj : Int) → S[jj]? = some (some s') → Ah s s' → ∃ p ∈ ps2, ∃ is, Best S jj p.1 is ∧ p.2 = toI is := fun ps2 sub hn kv hk jj2 s2 e1 e2 a2 => by
            rw [List.take_add_one, ek] at hk
            rcases List.mem_append.mp hk with z | z
            · obtain ⟨p, hp, r⟩ := p2 kv z jj2 s2 e1 e2 a2
              exact ⟨p, sub p hp, r⟩
            · have z : kv = (.inl (jj : Int), v) := List.mem_singleton.mp z
              rw [z] at e1
              have e1 := inl_inj e1
              subst e1
              rw [es'] at e2
              cases e2
              exact hn a2
          by_cases c : s.2 ≤ s'.1
          · rw [decide_eq_true c]
            obtain ⟨v3, hv⟩ := valV_has mk
            have hv : valV kvs (.inl (jj : Int)) = some v3 := hv
            obtain ⟨j3, j3l, e3, m3, is3, bst3, pv3⟩ := bd.val _ (valV_mem hv)
            have e3 := inl_inj e3
            subst e3
            refine iteT ⟨_, rfl, _, rfl, D, v3, rfl, .inl ⟨kvs, .inl (jj : Int), .inr ⟨od, sm _ _ Df⟩, rfl, hv.symm⟩, ys, eZ, ?_, ?_⟩
            · have := lpi.len
              have := bd.len
              exact Nat.lt_of_le_of_lt (show ys.length ≤ 100 by omega) (by decide)
            have up : Tp Hi (L2.upd Hi Z (.lst (ys ++ [v3]))) := tp_upd fun us z => by rw [eZ] at z; cases z
            refine ⟨fun b o e => ?_, ys ++ [v3], ps' ++ [(m3, toI is3)], upd_same, ?_, ?_, ?_, p2n _ (fun p hp => List.mem_append_left _ hp) fun _ => ⟨_, List.mem_append_right _ (List.mem_singleton.mpr rfl), is3, bst3, rfl⟩⟩
            · rw [upd_ne (ne_of_none e nZ)]
              exact sm _ _ e
            · exact (lpi.map fun v a h => h.tp up).snoc (((pv3.tp tpf).tp (tp_same sm)).tp up)
            · rw [List.length_append]
              show ps'.length + 1 ≤ i' + 1
              omega
            · intro p hp
              rcases List.mem_append.mp hp with z | z
              · exact p1 p z
              · rw [List.mem_singleton.mp z]
                exact ⟨jj, s', is3, by omega, es', c, bst3, rfl⟩
          · rw [decide_eq_false c]
            exact iteF ⟨sm, ys, ps', eZ, lpi, by omega, p1, p2n ps' (fun p hp => hp) fun a => absurd a c⟩
        · rintro He ⟨sm, ys, ps', eZ, lpi, pl, p1, p2⟩
          rw [List.take_length] at p2
          have De := sm _ _ Df
          refine ⟨De, ?_⟩
          have tp2 : Tp He (L2.upd He D (.dK kvs)) := tp_upd fun us z => by rw [De] at z; cases z
          have eZ2 : (L2.upd He D (.dK kvs)) Z = some (.lst ys) := by rw [upd_ne ZD]; exact eZ
          have eD2 : (L2.upd He D (.dK kvs)) D = some (.dK kvs) := upd_same
          have xx2 : LamX.ExtN H (L2.upd He D (.dK kvs)) := fun b o e nt => by
            have hb : b ≠ D := ne_of_none e HD
            rw [upd_ne hb]
            refine sm _ _ ?_
            rw [← ehf, upd_ne hb]
            exact xx _ _ e nt
          have t2 : LamX.Tabs (Tb pB) (L2.upd He D (.dK kvs)) := tabs_fz ((by rw [← ehf]; exact tabs_dk tx eDx : LamX.Tabs (Tb pB) Hf).ext sm) De
          have tpx : Tp Hx (L2.upd He D (.dK kvs)) := (tpf.trans (tp_same sm)).trans tp2
          generalize L2.upd He D (.dK kvs) = H2 at tp2 eZ2 eD2 xx2 t2 tpx ⊢
          refine ⟨Z, ys, ps', rfl, SqL.of eZ2, lpi.map (fun v a h => h.tp tp2), by have := bd.len; omega, t2, fun v p H3 x3 t3 pv cp p0 pt pl0 => ?_⟩
          obtain ⟨t, u3, rfl, et, eu3⟩ := id pv
          refine ⟨t, _, rfl, SqT.of et, rfl, _, _, rfl, _, _, rfl, rfl, ?_⟩
          have eu3' : H3 u = some (.tup [.int s.1, .int s.2]) := exT x3 (tpx _ _ eu)
          refine ⟨_, rfl, u, s, rfl, eu3', _, rfl, _, _, rfl, rfl, _, rfl, _, rfl, u3, _, rfl, SqT.of eu3, ?_⟩
          -- how long it is
          have plen : p.2.length ≤ 1000 := by
            rcases cp with z | z
            · rw [z]; exact Nat.zero_le _
            · obtain ⟨jj, s', is, _, _, _, b, e⟩ := p1 p z
              obtain ⟨l, pk, _, _⟩ := b.ex
              have := pk.sub.length_le
              have h2 : (told (S.drop jj)).length ≤ S.length := Nat.le_trans (List.length_filterMap_le _ _) (by rw [List.length_drop]; omega)
              have h3 := pk.len
              rw [e, List.length_map]
              omega
          refine ⟨Nat.le_trans (show _ ≤ 2000 from ?_) (by decide), fun a na => ⟨(by show 2 ≤ sizeLine; decide), fun b nb => ?_⟩⟩
          · rw [List.length_cons, List.length_append, List.length_map]
            show p.2.length + 0 + 1 ≤ 2000
            omega
          have sa := same_upd na (o := .tup (.int (j : Int) :: (p.2.map V.int ++ [])))
          have sb := same_upd nb (o := .tup [.int ((s.2 - s.1) + p.1), .ref a])
          have pvb : PrV (L2.upd (L2.upd H3 a (.tup (.int (j : Int) :: (p.2.map V.int ++ [])))) b (.tup [.int ((s.2 - s.1) + p.1), .ref a])) (.ref b) ((s.2 - s.1) + p.1, (j : Int) :: p.2) := by
            refine ⟨b, a, rfl, upd_same, sb _ _ ?_⟩
            rw [upd_same, List.append_nil]
            rfl
          have sab := sa.trans sb
          generalize L2.upd (L2.upd H3 a (.tup (.int (j : Int) :: (p.2.map V.int ++ [])))) b (.tup [.int ((s.2 - s.1) + p.1), .ref a]) = H4 at pvb sab ⊢
          have eD4 : H4 D = some (.dK kvs) := sab _ _ (exD x3 eD2)
          have no : valV kvs (.inl (j : Int)) = none := by
            cases e : valV kvs (.inl (j : Int)) with
            | none => rfl
            | some v9 =>
              obtain ⟨j9, a9, e9, _⟩ := bd.val _ (valV_mem e)
              have := inl_inj e9
              omega
          have bl := bd.len
          refine ⟨_, rfl, _, rfl, D, _, rfl, DPut.k (k := .inl (j : Int)) eD4 (Nat.lt_of_le_of_lt (show kvs.length ≤ 100 by omega) (by decide)), ?_⟩
          rw [putK_new _ no]
          have tp5 : Tp H4 (L2.upd H4 D (.dK (kvs ++ [(.inl (j : Int), .ref b)]))) := tp_upd fun us z => by rw [eD4] at z; cases z
          have bst : ∃ is, Best S j ((s.2 - s.1) + p.1) (j :: is) ∧ p.2 = toI is := by
            have h2 : ∀ i s' m' is', j < i → S[i]? = some (some s') → Ah s s' → Best S i m' is' → m' ≤ p.1 := fun i s' m' is' ji e a b => by
              obtain ⟨kv, hk, ek⟩ := bd.all i s' (by omega) e
              obtain ⟨p', hp', is2, b2, _⟩ := p2 kv hk i s' ek e a
              have := b.uniq b2
              have := pt p' hp'
              omega
            have h3 : ∀ i s', j < i → S[i]? = some (some s') → ∃ m' is', Best S i m' is' := fun i s' ji e => by
              obtain ⟨kv, hk, ek⟩ := bd.all i s' (by omega) e
              obtain ⟨j9, _, e9, m9, is9, b9, _⟩ := bd.val kv hk
              rw [ek] at e9
              have := inl_inj e9
              subst this
              exact ⟨m9, is9, b9⟩
            have h4 : ∀ is : List Nat, p.2 = toI is → p.1 = 0 → ¬ ([] : List Int) < toI is := fun is e z => by
              have := pl0 (0, []) (.inl rfl) z.symm
              rw [e] at this
              exact this
            have h5 : ∀ is : List Nat, p.2 = toI is → ∀ i s' is', j < i → S[i]? = some (some s') → Ah s s' → Best S i p.1 is' → ¬ toI is' < toI is := fun is e i s' is' ji e1 a b => by
              obtain ⟨kv, hk, ek⟩ := bd.all i s' (by omega) e1
              obtain ⟨p', hp', is2, b2, e2⟩ := p2 kv hk i s' ek e1 a
              have e3 := b2.uniq b
              have h6 := pl0 p' (.inr hp') e3
              rw [e2, e] at h6
              have h7 : is2 = is' := by
                rw [e3] at b2
                exact b2.uniq2 b
              rw [← h7]
              exact h6
            rcases cp with z | z
            · exact ⟨[], best_step ps es p0 (.inl ⟨by rw [z], rfl⟩) h2 h3 (h4 [] (by rw [z]; rfl)) (h5 [] (by rw [z]; rfl)), by rw [z]; rfl⟩
            · obtain ⟨jj, s', is, h1, e1, a1, b1, e⟩ := p1 p z
              exact ⟨is, best_step ps es p0 (.inr ⟨jj, s', h1, e1, a1, b1⟩) h2 h3 (h4 is e) (h5 is e), e⟩
          obtain ⟨is9, bst9, ep2⟩ := bst
          refine ⟨kvs ++ [(.inl (j : Int), .ref b)], _, _, _, _, _, rfl, upd_same, ?_, tabs_dk (t3.ext sab) eD4, ⟨?_, fun kv hk => ?_, fun j2 s2 h2 e2 => ?_⟩⟩
          · intro b2 o e nt
            rw [upd_ne (ne_of_none e HD)]
            exact sab _ _ (x3 _ _ (xx2 _ _ e nt) nt)
          · rw [List.length_append]
            show kvs.length + 1 ≤ _
            omega
          · rcases List.mem_append.mp hk with z | z
            · obtain ⟨j2, h1, e1, m, is, b1, pv1⟩ := bd.val kv z
              exact ⟨j2, by omega, e1, m, is, b1, (((pv1.tp tpx).tp (exTp x3)).tp (tp_same sab)).tp tp5⟩
            · rw [List.mem_singleton.mp z]
              refine ⟨j, Nat.le_refl _, rfl, _, _, bst9, ?_⟩
              rw [ep2] at pvb
              exact pvb.tp tp5
          · by_cases c : j2 = j
            · exact ⟨_, List.mem_append_right _ (List.mem_singleton.mpr rfl), by rw [c]⟩
            · obtain ⟨kv, hk, ek⟩ := bd.all j2 s2 (by omega) e2
              exact ⟨kv, List.mem_append_left _ hk, ek⟩
    · rintro σ Hx ⟨kvs, c2, c3, c4, c5, c6, rfl, eDx, xx, tx, bd⟩
      refine ⟨_, rfl, q D kvs Hx xx tx eDx ?_⟩
      rw [Nat.sub_self] at bd
      exact bd
end
end K44
set_option Elab.async false
set_option linter.all false
set_option maxRecDepth 100000
set_option maxHeartbeats 4000000
set_option pp.maxSteps 400
set_option pp.deepTerms false
namespace K44
open PySem PySem.Spec PyProof.Rows L2
open Xk Az W37
section
variable {P : Program} {w : World} {K : PySem.W.Frag} {mg : Str → Option Value} {base : Heap}
theorem pairs_of {H : Hp} {S : Spl} {k : Nat} : ∀ {kvs : List (Key × V)}, (∀ kv ∈ kvs, ∃ j : Nat, k ≤ j ∧ kv.1 = .inl (j : Int) ∧ ∃ m is, Best S j m is ∧ PrV H kv.2 (m, toI is)) →
    ∃ ps : List Pr, Lp (PrV H) (kvs.map (·.2)) ps ∧ ps.length = kvs.length ∧ (∀ p ∈ ps, ∃ j is, Best S j p.1 is ∧ p.2 = toI is) ∧ ∀ kv ∈ kvs, ∀ j : Nat, kv.1 = .inl (j : Int) → ∃ p ∈ ps, ∃ is, Best S j p.1 is ∧ p.2 = toI is
  | [], _ => ⟨[], .nil, rfl, (fun p h => by cases h), fun kv h => (by cases h)⟩
  | kv :: r, h => by
    obtain ⟨ps, a, b, c, d⟩ := pairs_of (kvs := r) fun q hq => h q (List.mem_cons_of_mem _ hq)
    obtain ⟨j, _, e, m, is, bst, pv⟩ := h kv List.mem_cons_self
    refine ⟨(m, toI is) :: ps, .cons pv a, by rw [List.length_cons, List.length_cons, b], fun p hp => ?_, fun q hq j2 e2 => ?_⟩
    · rcases List.mem_cons.mp hp with z | z
      · rw [z]; exact ⟨j, is, bst, rfl⟩
      · exact c p z
    · rcases List.mem_cons.mp hq with z | z
      · rw [z, e] at e2
        have := inl_inj e2
        subst this
        exact ⟨_, List.mem_cons_self, is, bst, rfl⟩
      · obtain ⟨p, hp, x⟩ := d q z j2 e2
        exact ⟨p, List.mem_cons_of_mem _ hp, x⟩
theorem Pk.get {S : Spl} : ∀ {k : Nat} {is : List Nat} {l : List S2}, Pk S k is l → ∀ {i n : Nat}, is[i]? = some n → ∃ s, l[i]? = some s ∧ S[n]? = some (some s)
  | _, _, _, .nil _, i, n, e => by simp at e
  | _, _, _, .cons h e r, 0, n, e2 => by
    rw [List.getElem?_cons_zero] at e2
    cases e2
    exact ⟨_, rfl, e⟩
  | _, _, _, .cons h e r, i + 1, n, e2 => by
    rw [List.getElem?_cons_succ] at e2
    obtain ⟨s, a, b⟩ := r.get e2
    exact ⟨s, by rw [List.getElem?_cons_succ]; exact a, b⟩
def lkF (S2s : List S2) (n : Nat) : List Nat := (List.range n).filter fun x => !S2s.any fun s => decide (s.1 ≤ (x : Int)) && decide ((x : Int) < s.2)
def spMO (K : PySem.W.Frag) (C : Addr) (pB : Addr) : Sp := fun vs H Q _ => ∃ (v : V) (T : Addr) (xs : List V) (w : W) (ts : List (Option Nm)) (nm : V) (g : Nm → Nm → Bool), vs = [v, .ref T, nm] ∧ Ora C H nm g ∧ Wk H v w ∧ w.dp ≤ 5 ∧ w.nms.length ≤ 100 ∧ (∀ m ∈ w.nms, An m) ∧ SqT K H T xs ∧ Lp (TtV H) xs ts ∧ ts.length ≤ 30 ∧ (∀ m, some m ∈ ts → An m) ∧ LamX.Tabs (Tb pB) H ∧
  ∀ (t c k : Addr) (m : Int) (is : List Nat) (l : List S2) H', LamX.ExtN H H' → LamX.Tabs (Tb pB) H' → H' t = some (.tup [.int m, .ref c, .ref k]) → H' c = some (.tup ((toI is).map V.int)) → H' k = some (.tup ((toI (lkF l (lvs w).length)).map V.int)) → 0 ≤ m →
    Most (ts.map fun t => t.bind (spG g w)) m → Pk (ts.map fun t => t.bind (spG g w)) 0 is l → Ch l → vl l = m → Lst (ts.map fun t => t.bind (spG g w)) 0 m is → Q (.ref t) H'
theorem pos_spG (g : Nm → Nm → Bool) (w : W) (ts : List (Option Nm)) : Pos (ts.map fun t => t.bind (spG g w)) := fun s h => by
  obtain ⟨o, _, e⟩ := List.mem_map.mp h
  cases o with
  | none => cases e
  | some m =>
    obtain ⟨a, b, _⟩ := spG_in (show spG g w m = some s from e)
    exact ⟨a, b⟩
theorem ok_mo {f : Addr} {fd : FuncData} {C pB : Addr} (F : FunD K "most_in_order" "most_in_order" (defArgs sMostInOrder) (defBody sMostInOrder) (defScope sMostInOrder) [.non] [] f fd) (T : Txt mg) (cSOs : Ca P w K mg base 8 "spans_of" ["work", "titles", "names"] (spSOs K C)) (cBB : Ca P w K mg base 6 "best_by_first" ["spans"] (spBB K pB)) (cBO : Ca P w K mg base 5 "best_of" ["choices"] (spBO K pB)) (cLv : Ca P w K mg base 6 "leaves" ["work"] (spLv 5)) : FnOk P w K mg base CX0 9 f fd ["work", "titles", "names"] (spMO K C pB) := by
  refine okN F scMostInOrder (fun vs H Q E h => ?_) (fun cdv A outer s H vs Q E hr h => ?_)
  · obtain ⟨v, T0, xs, w, ts, nm, g, rfl, or_, wk, hd, hl, an, eT, tl, l30, at_, tb, q⟩ := h
    rfl
  · obtain ⟨v, T0, xs, w, ts, nm, g, rfl, or_, wk, hd, hl, an, eT, tl, l30, at_, tb, q⟩ := h
    refine ⟨_, (pss_cons (ps_set (i := 3) scMostInOrder.nd rfl (.inr rfl) (pe_ca cSOs hr (by decide) (by rfl) (pa_cons (pv 0) (pa_cons (pv 1) (pa_cons (pv 2) pa_nil)))))
      (pss_cons (ps_asg (pe_ca cBO hr (by decide) (by rfl) (pa_cons (Xvl.pe_listVals (by rfl) (by rfl) T.list (pe_ca cBB hr (by decide) (by rfl) (pa_cons (pv 3) pa_nil))) pa_nil)) (pg_tup (by rfl) (pgs_cons (pg_name (i := 4) scMostInOrder.nd rfl (.inl rfl)) (pgs_cons (pg_name (i := 5) scMostInOrder.nd rfl (.inl rfl)) pgs_nil))))
      (pss_cons (ps_set (i := 6) scMostInOrder.nd rfl (.inr rfl) (pe_lc (own := [("number", 8)]) (g := gName 8) (tt := tYes) (te := tOp (rIxL K) (tVar 3) (tVar 8)) (by rfl) scMostInOrder.nd (pi_tup (pv 5)) (blkOk_by (own := [("number", 8)]) (N := ["work", "titles", "names", "spans", "many", "choice", "chosen", "lacks", "number", "leaf", "low", "high"]) (sc := defScope sMostInOrder) (by decide +kernel)) (fun _ _ _ _ _ => pg_name (i := 8) scMostInOrder.nd rfl (.inl rfl)) (fun _ _ _ _ _ => pts_nil) (fun _ _ _ _ _ => pe_ix ix_list (pv 3) (pv 8) (fun _ _ => rfl))))
      (pss_cons (ps_setLc (i := 7) (own := [("leaf", 9)]) (g := gName 9) (tt := tNot (tTest (tCB (rAny K) (tCons (tLc (iList K (tVar 6)) (gTup K 2 (gCons (gName 10) (gCons (gName 11) gNil))) tYes (tChain (rI0 fun i j => V.bl (decide (i ≤ j))) (rI0 fun i j => V.bl (decide (i < j))) (tVar 10) (tVar 9) (tVar 11)) [10, 11]) tNil)))) (te := tVar 9) (by rfl) scMostInOrder.nd rfl rfl (sw_true rfl rfl rfl (by decide +kernel)) (pi_range1 (by rfl) T.range (pa_cons (pe_callB call_len_seq (by rfl) T.len PySem.boot_len (pa_cons (pe_ca cLv hr (by decide) (by rfl) (pa_cons (pv 0) pa_nil)) pa_nil)) pa_nil)) (blkOk_by (own := [("leaf", 9)]) (N := ["work", "titles", "names", "spans", "many", "choice", "chosen", "lacks", "number", "leaf", "low", "high"]) (sc := defScope sMostInOrder) (by decide +kernel)) (fun _ _ _ _ _ => pg_name (i := 9) scMostInOrder.nd rfl (.inr rfl)) (fun _ _ _ _ _ => (pts_one (pt_not (pt_val (pe_callB (cr_any (by rfl)) (by rfl) T.any (by decide +kernel) (pa_cons (pe_lc (own := [("low", 10), ("high", 11)]) (g := (gTup K 2 (gCons (gName 10) (gCons (gName 11) gNil)))) (tt := tYes) (by rfl) scMostInOrder.nd (pi_list (pv 6)) (blkOk_by (own := [("low", 10), ("high", 11)]) (N := ["work", "titles", "names", "spans", "many", "choice", "chosen", "lacks", "number", "leaf", "low", "high"]) (sc := relS ⟨.function, [(".0", .local), ("leaf", .cell), ("any", .globalImplicit), ("chosen", .free)], false, false, []⟩ (defScope sMostInOrder)) (by decide +kernel)) (fun _ _ _ _ _ => pg_tup (by rfl) (pgs_cons (pg_name (i := 10) scMostInOrder.nd rfl (.inl rfl)) (pgs_cons (pg_name (i := 11) scMostInOrder.nd rfl (.inl rfl)) pgs_nil))) (fun _ _ _ _ _ => pts_nil) (fun _ _ _ _ _ => pe_chain op_le op_lt (pv 10) (pv 9) (pv 11))) pa_nil)))))) (fun _ _ _ _ _ => pv 9))
      (pss_one (ps_ret (pe_tup (pa_cons (pv 4) (pa_cons (pv 5) (pa_cons (pe_callTy call_tuple_of (by rfl) T.tuple (by decide +kernel) (pa_cons (pv 7) pa_nil)) pa_nil)))))))))), ?_⟩
    have hnn := nl_nms w
    have hnp := nl_pos w
    refine ⟨_, rfl, _, rfl, _, rfl, v, T0, xs, w, ts, nm, g, rfl, or_, wk, hd, hl, an, eT, tl, l30, at_, fun L ys H1 s1 nL eL lp => ?_⟩
    have sl : (ts.map fun t => t.bind (spG g w)).length ≤ 30 := by rw [List.length_map]; exact l30
    have ps := pos_spG g w ts
    generalize (ts.map fun t => t.bind (spG g w)) = S at lp sl ps q ⊢
    refine ⟨_, rfl, L, ys, S, rfl, SqL.of eL, lp, sl, ps, tb.ext s1, fun D kvs H2 x2 t2 eD bd => ?_⟩
    refine ⟨D, kvs, rfl, eD, fun M nM neM => ?_⟩
    have sM := same_upd nM (o := .lst (kvs.map (·.2)))
    have eM : (L2.upd H2 M (.lst (kvs.map (·.2)))) M = some (.lst (kvs.map (·.2))) := upd_same
    generalize L2.upd H2 M (.lst (kvs.map (·.2))) = H3 at sM eM ⊢
    have t3 := t2.ext sM
    -- the pairs
    obtain ⟨ps3, lp3, pl3, pb3, pa3⟩ : ∃ ps3 : List Pr, Lp (PrV H3) (kvs.map (·.2)) ps3 ∧ ps3.length ≤ 30 ∧ (∀ p ∈ ps3, ∃ j is, Best S j p.1 is ∧ p.2 = toI is) ∧ ∀ j m is, Best S j m is → ∃ p ∈ ps3, p.1 = m ∧ p.2 = toI is := by
      obtain ⟨ps3, a, b, c, d⟩ := pairs_of bd.val
      refine ⟨ps3, a.map fun v p h => h.tp (tp_same sM), by have := bd.len; omega, c, fun j m is bst => ?_⟩
      obtain ⟨s, es⟩ := bst.at_
      obtain ⟨kv, hk, ek⟩ := bd.all j s (Nat.zero_le _) es
      obtain ⟨p, hp, is2, b2, e2⟩ := d kv hk j ek
      have e3 := b2.uniq bst
      rw [e3] at b2
      exact ⟨p, hp, e3, by rw [e2, b2.uniq2 bst]⟩
    refine ⟨M, _, ps3, rfl, SqL.of eM, lp3, by omega, t3, fun r p H4 x4 t4 pv cp p0 pt pl0 => ?_⟩
    obtain ⟨is, l, ep, mo, pk, ch, ev, ls⟩ : ∃ is l, p.2 = toI is ∧ Most S p.1 ∧ Pk S 0 is l ∧ Ch l ∧ vl l = p.1 ∧ Lst S 0 p.1 is := by
      have top : ∀ i m' is', Best S i m' is' → m' ≤ p.1 := fun i m' is' b => by
        obtain ⟨p', hp', e, _⟩ := pa3 i m' is' b
        have := pt p' hp'
        omega
      have all : ∀ i s', S[i]? = some (some s') → ∃ m' is', Best S i m' is' := fun i s' e => by
        obtain ⟨kv, hk, ek⟩ := bd.all i s' (Nat.zero_le _) e
        obtain ⟨j9, _, e9, m9, is9, b9, _⟩ := bd.val kv hk
        rw [ek] at e9
        have := inl_inj e9
        subst this
        exact ⟨m9, is9, b9⟩
      have h4 : ∀ is : List Nat, p.2 = toI is → p.1 = 0 → ¬ ([] : List Int) < toI is := fun is e z => by
        have := pl0 (0, []) (.inl rfl) z.symm
        rw [e] at this
        exact this
      have h5 : ∀ is : List Nat, p.2 = toI is → ∀ i is', Best S i p.1 is' → ¬ toI is' < toI is := fun is e i is' b => by
        obtain ⟨p', hp', e1, e2⟩ := pa3 i _ is' b
        have := pl0 p' (.inr hp') e1
        rw [e2, e] at this
        exact this
      rcases cp with z | z
      · obtain ⟨⟨mo, l, a, b, c⟩, ls⟩ := most_of (is := []) p0 (.inl ⟨by rw [z], rfl⟩) top all (h4 [] (by rw [z]; rfl)) (h5 [] (by rw [z]; rfl))
        exact ⟨[], l, by rw [z]; rfl, mo, a, b, c, ls⟩
      · obtain ⟨j, is, b, e⟩ := pb3 p z
        obtain ⟨⟨mo, l, a, b, c⟩, ls⟩ := most_of p0 (.inr ⟨j, b⟩) top all (h4 is e) (h5 is e)
        exact ⟨is, l, e, mo, a, b, c, ls⟩
    obtain ⟨t, c, rfl, et, ec⟩ := id pv
    rw [ep] at ec
    have x14 : LamX.ExtN H1 H4 := (x2.trans (LamX.ExtN.of sM)).trans x4
    have x04 : LamX.ExtN H H4 := (LamX.ExtN.of s1).trans x14
    refine ⟨t, _, rfl, SqT.of et, rfl, _, _, rfl, _, _, rfl, rfl, ?_⟩
    have eL4 := exL x14 eL
    have lp4 : Lp (SpV H4) ys S := lp.map fun v a h => h.tp (exTp x14)
    have isl := pk.len
    have ll : l.length ≤ 30 := Nat.le_trans pk.sub.length_le (Nat.le_trans (List.length_filterMap_le _ _) (by rw [List.drop_zero]; exact sl))
    refine ⟨_, rfl, c, rfl, ⟨_, SqT.of ec⟩, fun C nC => ?_⟩
    refine lc_tup (K := K) (a := c) (xs := (toI is).map V.int) (fun i Hi => L2.Same H4 Hi ∧ ∃ zs, Hi C = some (.lst zs) ∧ Lp (fun v s => SpV Hi v (some s)) zs (l.take i)) ⟨same_upd nC, [], upd_same, .nil⟩ (fun i Hi _ z => SqT.of (z.1 _ _ ec)) ?_ ?_
    · rintro i x Hi hx ⟨sm, zs, eC, lz⟩
      rw [List.getElem?_map] at hx
      obtain ⟨n', en', rfl⟩ := Option.map_eq_some_iff.mp hx
      rw [List.getElem?_map] at en'
      obtain ⟨n, en, rfl⟩ := Option.map_eq_some_iff.mp en'
      obtain ⟨s, el, es⟩ := pk.get en
      obtain ⟨v5, ev5, sv5⟩ := lp4.at_ es
      have zl := lz.len
      rw [List.length_take] at zl
      refine ⟨rfl, ?_⟩
      unfold tYes
      have up : Tp Hi (L2.upd Hi C (.lst (zs ++ [v5]))) := tp_upd fun us z => by rw [eC] at z; cases z
      refine iteT ⟨_, rfl, _, rfl, L, ys, (n : Int), v5, rfl, rfl, SqL.of (sm _ _ eL4), atI_nat ev5, zs, eC, Nat.lt_of_le_of_lt (show zs.length ≤ 100 by omega) (by decide), fun b o e => ?_, zs ++ [v5], upd_same, ?_⟩
      · rw [upd_ne (ne_of_none e nC)]
        exact sm _ _ e
      · rw [List.take_add_one, el]
        exact (lz.map fun v a h => SpV.tp h up).snoc (SpV.tp (SpV.tp sv5 (tp_same sm)) up)
    rintro H5 ⟨s5, zs, eC, lz⟩
    rw [List.take_of_length_le (by rw [List.length_map, List.length_map]; omega)] at lz
    refine ⟨_, rfl, v, w, rfl, wk.tp (exTp (x04.trans (LamX.ExtN.of s5))), by show w.dp ≤ 4 + 1; omega, by omega, fun t6 xs6 H6 s6 et6 lx6 => ?_⟩
    obtain ⟨n, hn⟩ : ∃ n, n = (lvs w).length := ⟨_, rfl⟩
    have lx : xs6.length = n := by rw [hn]; unfold nl at lx6; omega
    have n1 : n ≤ 100 := by rw [hn]; unfold nl at hnn; omega
    refine ⟨t6, xs6, rfl, .inr (SqT.of et6), _, rfl, by omega, by omega, fun D2 nD2 => ?_⟩
    have eC6 := s6 _ _ eC
    have lz6 : Lp (fun v s => SpV H6 v (some s)) zs l := lz.map fun v a h => SpV.tp h (tp_same s6)
    have zl := lz.len
    have sD2 := same_upd nD2 (o := .lst [])
    have f0 : ∀ i, (lkF l (i + 1)) = lkF l i ++ (if (!l.any fun s => decide (s.1 ≤ (i : Int)) && decide ((i : Int) < s.2)) = true then [i] else []) := fun i => by
      unfold lkF
      rw [List.range_succ, List.filter_append]
      congr 1
      rw [List.filter_cons, List.filter_nil]
    refine lc_range (lo := 0) (fun i Hi => L2.Same H6 Hi ∧ Hi D2 = some (.lst ((toI (lkF l i)).map V.int))) ⟨sD2, upd_same⟩ ?_ ?_
    · rintro i Hi il ⟨sm, eD2⟩
      have il : i < n := by omega
      refine ⟨rfl, ?_⟩
      refine ⟨_, rfl, C, rfl, ⟨_, SqL.of (sm _ _ eC6)⟩, fun E2 nE2 => ?_⟩
      have eC7 := sm _ _ eC6
      refine lc_list (K := K) (a := C) (xs := zs) (fun j Hj => L2.Same Hi Hj ∧ Hj E2 = some (.lst (((l.take j).map fun s => decide (s.1 ≤ (i : Int)) && decide ((i : Int) < s.2)).map V.bl))) ⟨same_upd nE2, upd_same⟩ (fun j Hj _ z => SqL.of (z.1 _ _ eC7)) ?_ ?_
      · rintro j x Hj hx ⟨sj, eE2⟩
        obtain ⟨s, es, u, rfl, eu⟩ := lz6.get hx
        have jl := (List.getElem?_eq_some_iff.mp es).1
        refine ⟨u, _, rfl, SqT.of (sj _ _ (sm _ _ eu)), rfl, _, _, rfl, _, _, rfl, rfl, rfl, ?_⟩
        have fin : ∀ b : Bool, b = (decide (s.1 ≤ (i : Int)) && decide ((i : Int) < s.2)) → ∃ acc, Hj E2 = some (.lst acc) ∧ acc.length < sizeLine ∧ (L2.Same Hi (L2.upd Hj E2 (.lst (acc ++ [V.bl b]))) ∧ (L2.upd Hj E2 (.lst (acc ++ [V.bl b]))) E2 = some (.lst (((l.take (j + 1)).map fun s => decide (s.1 ≤ (i : Int)) && decide ((i : Int) < s.2)).map V.bl))) := fun b eb => by
          refine ⟨_, eE2, ?_, fun b o e => ?_, ?_⟩
          · rw [List.length_map, List.length_map, List.length_take]
            exact Nat.lt_of_le_of_lt (show min j l.length ≤ 100 by omega) (by decide)
          · rw [upd_ne (ne_of_none e nE2)]
            exact sj _ _ e
          · rw [upd_same, List.take_add_one, es, List.map_append, List.map_append, eb]
            rfl
        unfold tYes
        refine iteT ?_
        have z0 : (0 : Int) + (i : Nat) = (i : Int) := by omega
        refine ⟨_, rfl, _, rfl, s.1, 0 + ((i : Nat) : Int), rfl, rfl, _, rfl, ?_⟩
        rw [z0]
        by_cases c : s.1 ≤ (i : Int)
        · rw [decide_eq_true c]
          refine iteT ⟨_, rfl, _, _, rfl, rfl, fin _ ?_⟩
          rw [decide_eq_true c, Bool.true_and]
        · rw [decide_eq_false c]
          exact iteF (fin false (by rw [decide_eq_false c]; rfl))
      · rintro Hj ⟨sj, eE2⟩
        rw [List.take_of_length_le (by omega)] at eE2
        refine ⟨E2, _, rfl, SqL.of eE2, _, rfl, ?_⟩
        have ea : ((l.map fun s => decide (s.1 ≤ (i : Int)) && decide ((i : Int) < s.2)).any id) = l.any fun s => decide (s.1 ≤ (i : Int)) && decide ((i : Int) < s.2) := by rw [List.any_map]; rfl
        rw [ea]
        have eD3 := sj _ _ eD2
        have fi := f0 i
        have fl : (lkF l i).length ≤ i := by
          unfold lkF
          exact Nat.le_trans (List.length_filter_le _ _) (by rw [List.length_range]; exact Nat.le_refl _)
        cases c : l.any fun s => decide (s.1 ≤ (i : Int)) && decide ((i : Int) < s.2) with
        | true =>
          rw [c] at fi
          have fi : lkF l (i + 1) = lkF l i := by rw [fi]; simp
          refine iteF ⟨sm.trans sj, ?_⟩
          rw [fi]
          exact eD3
        | false =>
          rw [c] at fi
          have fi : lkF l (i + 1) = lkF l i ++ [i] := fi
          refine iteT ⟨_, rfl, _, eD3, ?_, fun b o e => ?_, ?_⟩
          · rw [List.length_map, List.length_map]
            exact Nat.lt_of_le_of_lt (show (lkF l i).length ≤ 1000 by omega) (by decide)
          · rw [upd_ne (ne_of_none e nD2)]
            exact sj _ _ (sm _ _ e)
          · rw [upd_same, fi]
            unfold toI
            rw [List.map_append, List.map_append]
            show some (HO.lst (_ ++ [V.int (0 + (i : Int))])) = some (HO.lst (_ ++ [V.int (i : Int)]))
            rw [Int.zero_add]
    · rintro He ⟨sm, eD2⟩
      rw [show (((xs6.length : Nat) : Int)).toNat = n by omega] at eD2
      have x4e : LamX.ExtN H4 He := LamX.ExtN.of ((s5.trans s6).trans sm)
      refine ⟨_, rfl, _, rfl, _, rfl, D2, _, rfl, .inl ⟨SqL.of eD2, fun k nk => ?_⟩⟩
      have sk := same_upd nk (o := .tup ((toI (lkF l n)).map V.int))
      refine ⟨(by show 3 ≤ sizeLine; decide), fun t9 n9 => ?_⟩
      have s9 := same_upd n9 (o := .tup [.int p.1, .ref c, .ref k])
      have x49 := x4e.trans (LamX.ExtN.of (sk.trans s9))
      refine q t9 c k p.1 is l _ (x04.trans x49) (t4.ext fun b o e => (sk.trans s9) _ _ (((s5.trans s6).trans sm) _ _ e)) upd_same (exT x49 ec) ?_ p0 mo pk ch ev ls
      rw [← hn]
      exact s9 _ _ upd_same
end
end K44
set_option Elab.async false
set_option linter.all false
set_option maxRecDepth 100000
set_option maxHeartbeats 4000000
set_option pp.maxSteps 400
set_option pp.deepTerms false
namespace K44
open PySem PySem.Spec PyProof.Rows L2
open Xk Az W37
section
variable {P : Program} {w : World} {K : PySem.W.Frag} {mg : Str → Option Value} {base : Heap}
/-- a list or a tuple of numbers -/
def Sq (K : PySem.W.Frag) (H : Hp) (a : Addr) (p : List Int) : Prop := H a = some (.lst (p.map V.int)) ∨ H a = some (.tup (p.map V.int))
theorem Sq.same {H H' : Hp} {a : Addr} {p : List Int} (h : Sq K H a p) (s : L2.Same H H') : Sq K H' a p := h.imp (s _ _) (s _ _)
def spLH (K : PySem.W.Frag) : Sp := fun vs H Q _ => ∃ (L P : Addr) (xs : List V) (S : Spl) (p : List Int) (i : Nat) (s : S2), vs = [.ref L, .ref P, .int (i : Int)] ∧ H L = some (.lst xs) ∧ Lp (SpV H) xs S ∧ S.length ≤ 30 ∧ Sq K H P p ∧ i ≤ p.length ∧ S[i]? = some (some s) ∧
  ∀ H', L2.Same H H' → Q (.int (lh S p s i)) H'
def spHt (K : PySem.W.Frag) (C : Addr) : Sp := fun vs H Q _ => ∃ (v : V) (T : Addr) (xs : List V) (w : W) (ts : List (Option Nm)) (nm : V) (g : Nm → Nm → Bool), vs = [v, .ref T, nm] ∧ Ora C H nm g ∧ Wk H v w ∧ w.dp ≤ 5 ∧ w.nms.length ≤ 100 ∧ (∀ m ∈ w.nms, An m) ∧ SqT K H T xs ∧ Lp (TtV H) xs ts ∧ ts.length ≤ 30 ∧ (∀ m, some m ∈ ts → An m) ∧
  ∀ (t : Addr) H', L2.Same H H' → H' t = some (.tup ((htl (ts.map fun t => t.bind (spG g w)) ts.length).map V.int)) → Q (.ref t) H'
def spSM (K : PySem.W.Frag) (C : Addr) : Sp := fun vs H Q _ => ∃ (v : V) (T : Addr) (xs : List V) (w : W) (ts : List (Option Nm)) (nm : V) (g : Nm → Nm → Bool) (n : Int) (P : Addr) (p : List Int), vs = [v, .ref T, .int n, .ref P, nm] ∧ Ora C H nm g ∧ Wk H v w ∧ w.dp ≤ 5 ∧ w.nms.length ≤ 100 ∧ (∀ m ∈ w.nms, An m) ∧ SqT K H T xs ∧ Lp (TtV H) xs ts ∧ ts.length ≤ 30 ∧ (∀ m, some m ∈ ts → An m) ∧
  H P = some (.tup (p.map V.int)) ∧ p.length = ts.length ∧ ∀ H', L2.Same H H' → Q (.bl (smB (ts.map fun t => t.bind (spG g w)) n p)) H'
def bel (S : Spl) (p : List Int) (s : S2) (i : Nat) : List Int := below S p s i
theorem below_succ (S : Spl) (p : List Int) (s : S2) (i : Nat) : below S p s (i + 1) = below S p s i ++ (bl1 S p s i).toList := by
  unfold below
  rw [List.range_succ, List.filterMap_append, List.filterMap_cons, List.filterMap_nil]
  cases bl1 S p s i <;> rfl
theorem mx0_def (l : List Int) : mx0 l = (match l with | [] => 0 | n :: r => r.foldl max n) := by cases l <;> rfl
theorem ok_lh {f : Addr} {fd : FuncData} (D : Df K mg "least_height" ["spans", "known", "number"] sLeastHeight f fd) (T : Txt mg) (cLW : Ca P w K mg base 1 "leaves_within" ["span"] spLW) (cAh : Ca P w K mg base 1 "is_ahead" ["one", "other"] spAh) : FnOk P w K mg base CX0 2 f fd ["spans", "known", "number"] (spLH K) := by
  refine D.fn.ok scLeastHeight (fun vs H Q E h => ?_) (fun cdv A outer s H vs Q E hr h => ?_)
  · obtain ⟨L, P0, xs, S, p, i, s, rfl, eL, lp, l30, sq, ip, es, q⟩ := h
    rfl
  · obtain ⟨L, P0, xs, S, p, i, s, rfl, eL, lp, l30, sq, ip, es, q⟩ := h
    refine ⟨_, (pss_cons (ps_set (i := 3) scLeastHeight.nd rfl (.inr rfl) (pe_ix ix_list (pv 0) (pv 2) (fun _ _ => rfl)))
      (pss_cons (ps_setLc (i := 4) (own := [("at", 5)]) (g := gName 5) (tt := tAnd (tTest (tOp (fun x y H Q => y = V.non ∧ Q (V.bl !decide (x = V.non)) H) (tOp (rIxL K) (tVar 0) (tVar 5)) (tC .non))) (tTest (tCall spAh [] E0 (tCons (tOp (rIxL K) (tVar 0) (tVar 5)) (tCons (tVar 3) tNil))))) (te := tOp (rIx K) (tVar 1) (tVar 5)) (by rfl) scLeastHeight.nd rfl rfl (sw_true rfl rfl rfl (by decide +kernel)) (pi_range1 (by rfl) T.range (pa_cons (pv 2) pa_nil)) (blkOk_by (own := [("at", 5)]) (N := ["spans", "known", "number", "span", "below", "at"]) (sc := defScope sLeastHeight) (by decide +kernel)) (fun _ _ _ _ _ => pg_name (i := 5) scLeastHeight.nd rfl (.inl rfl)) (fun _ _ _ _ _ => (pts_one (PW.pt (pw_and (pt_cmpR op_notN (pe_ix ix_list (pv 0) (pv 5) (fun _ _ => rfl)) pe_non (nomark _)) (pw_and1 (pt_val (pe_ca cAh hr (by decide) (by rfl) (pa_cons (pe_ix ix_list (pv 0) (pv 5) (fun _ _ => rfl)) (pa_cons (pv 3) pa_nil))))))))) (fun _ _ _ _ _ => pe_ix ix_seq (pv 1) (pv 5) (fun _ _ => rfl)))
      (pss_one (ps_ret (pe_op op_add (pe_ca cLW hr (by decide) (by rfl) (pa_cons (pv 3) pa_nil)) (Xvl.pe_maxDef (by rfl) hr (by rfl) T.max (pv 4))))))), ?_⟩
    have xl := lp.len
    have il := (List.getElem?_eq_some_iff.mp es).1
    obtain ⟨vi, evi, u, rfl, eu⟩ := lp.at_ es
    refine ⟨_, rfl, _, rfl, L, xs, (i : Int), .ref u, rfl, rfl, SqL.of eL, atI_nat evi, ?_⟩
    refine ⟨_, rfl, _, rfl, by omega, by omega, fun D nD' => ?_⟩
    have sD := same_upd nD' (o := .lst [])
    refine lc_range (lo := 0) (fun k Hk => L2.Same H Hk ∧ Hk D = some (.lst ((below S p s k).map V.int))) ⟨sD, upd_same⟩ ?_ ?_
    · rintro k Hk kl ⟨sm, eD⟩
      have kl : k < i := by omega
      have z0 : (0 : Int) + (k : Nat) = (k : Int) := by omega
      rw [z0]
      have kS : k < S.length := by omega
      obtain ⟨vk, evk, sk⟩ := lp.at_ (List.getElem?_eq_getElem kS)
      have bs := below_succ S p s k
      unfold bl1 at bs
      rw [List.getElem?_eq_getElem kS] at bs
      have bl : (below S p s k).length ≤ k := by
        unfold below
        exact Nat.le_trans (List.length_filterMap_le _ _) (by rw [List.length_range]; exact Nat.le_refl _)
      refine ⟨rfl, ?_⟩
      refine ⟨_, rfl, _, rfl, L, xs, (k : Int), vk, rfl, rfl, SqL.of (sm _ _ eL), atI_nat evk, ?_⟩
      cases eo : S[k] with
      | none =>
        rw [eo] at sk bs
        obtain rfl : vk = .non := sk
        have bs : below S p s (k + 1) = below S p s k := by rw [bs]; simp
        refine ⟨rfl, _, rfl, iteF (iteF ⟨sm, ?_⟩)⟩
        rw [bs]
        exact eD
      | some r =>
        rw [eo] at sk bs
        obtain ⟨u2, rfl, eu2⟩ := sk
        have pk : p[k]? = some (p.getD k 0) := by rw [List.getD_eq_getElem?_getD, List.getElem?_eq_getElem (by omega)]; rfl
        refine ⟨rfl, _, rfl, iteT ⟨_, rfl, _, rfl, L, xs, (k : Int), .ref u2, rfl, rfl, SqL.of (sm _ _ eL), atI_nat evk, _, rfl, u2, u, r, s, rfl, sm _ _ eu2, sm _ _ eu, _, rfl, ?_⟩⟩
        by_cases c : r.2 ≤ s.1
        · have bs : below S p s (k + 1) = below S p s k ++ [p.getD k 0] := by
            rw [bs]
            show _ ++ (if r.2 ≤ s.1 then p[k]? else none).toList = _
            rw [if_pos c, pk]
            rfl
          rw [decide_eq_true c]
          have fin : ∃ acc, Hk D = some (.lst acc) ∧ acc.length < sizeLine ∧ (L2.Same H (L2.upd Hk D (.lst (acc ++ [V.int (p.getD k 0)]))) ∧ (L2.upd Hk D (.lst (acc ++ [V.int (p.getD k 0)]))) D = some (.lst ((below S p s (k + 1)).map V.int))) := by
            refine ⟨_, eD, ?_, fun b o e => ?_, ?_⟩
            · rw [List.length_map]
              exact Nat.lt_of_le_of_lt (show (below S p s k).length ≤ 100 by omega) (by decide)
            · rw [upd_ne (ne_of_none e nD')]
              exact sm _ _ e
            · rw [upd_same, bs, List.map_append]
              rfl
          have pkV : (p.map V.int)[k]? = some (.int (p.getD k 0)) := by rw [List.getElem?_map, pk]; rfl
          refine iteT ⟨_, rfl, _, rfl, ?_⟩
          rcases sq.same sm with e | e
          · exact .inl ⟨P0, _, (k : Int), _, rfl, rfl, SqL.of e, atI_nat pkV, fin⟩
          · exact .inr (.inl ⟨P0, _, (k : Int), _, rfl, rfl, SqT.of e, atI_nat pkV, fin⟩)
        · have bs : below S p s (k + 1) = below S p s k := by
            rw [bs]
            show _ ++ (if r.2 ≤ s.1 then p[k]? else none).toList = _
            rw [if_neg c]
            simp
          rw [decide_eq_false c]
          refine iteF ⟨sm, ?_⟩
          rw [bs]
          exact eD
    · rintro He ⟨sm, eD⟩
      rw [Int.toNat_natCast] at eD
      refine ⟨_, rfl, u, s, rfl, sm _ _ eu, _, rfl, D, _, rfl, SqL.of eD, _, _, rfl, rfl, ?_⟩
      have w9 := q He sm
      unfold lh at w9
      rw [mx0_def] at w9
      exact w9
theorem ok_ht {f : Addr} {fd : FuncData} {C : Addr} (F : FunD K "heights" "heights" (defArgs sHeights) (defBody sHeights) (defScope sHeights) [.non] [] f fd) (T : Txt mg) (cSOs : Ca P w K mg base 8 "spans_of" ["work", "titles", "names"] (spSOs K C)) (cLH : Ca P w K mg base 2 "least_height" ["spans", "known", "number"] (spLH K)) : FnOk P w K mg base CX0 9 f fd ["work", "titles", "names"] (spHt K C) := by
  refine okN F scHeights (fun vs H Q E h => ?_) (fun cdv A outer s H vs Q E hr h => ?_)
  · obtain ⟨v, T0, xs, w, ts, nm, g, rfl, or_, wk, hd, hl, an, eT, tl, l30, at_, q⟩ := h
    rfl
  · obtain ⟨v, T0, xs, w, ts, nm, g, rfl, or_, wk, hd, hl, an, eT, tl, l30, at_, q⟩ := h
    refine ⟨_, (pss_cons (ps_set (i := 3) scHeights.nd rfl (.inl rfl) (pe_ca cSOs hr (by decide) (by rfl) (pa_cons (pv 0) (pa_cons (pv 1) (pa_cons (pv 2) pa_nil)))))
      (pss_cons (ps_set (i := 4) scHeights.nd rfl (.inl rfl) (pe_lst pa_nil))
      (pss_cons (ps_for PassesOwn.never rfl (pi_enum (by rfl) T.enumerate (pa_cons (pv 3) pa_nil)) (pg_tup (by rfl) (pgs_cons (pg_name (i := 5) scHeights.nd rfl (.inl rfl)) (pgs_cons (pg_name (i := 6) scHeights.nd rfl (.inl rfl)) pgs_nil))) (pss_one (ps_expr (pe_bm PySem.F.plainAttrs_list PySem.F.slot_list_append PySem.F.type_list_append mt_append (pv 4) (pa_cons (pe_ifExp (pt_cmpR op_isN (pv 6) pe_non (nomark _)) pe_int (pe_ca cLH hr (by decide) (by rfl) (pa_cons (pv 3) (pa_cons (pv 4) (pa_cons (pv 5) pa_nil))))) pa_nil)))))
      (pss_one (ps_ret (pe_callTy call_tuple_of (by rfl) T.tuple (by decide +kernel) (pa_cons (pv 4) pa_nil))))))), ?_⟩
    refine ⟨_, rfl, _, rfl, _, rfl, v, T0, xs, w, ts, nm, g, rfl, or_, wk, hd, hl, an, eT, tl, l30, at_, fun L ys H1 s1 nL eL lp => ?_⟩
    have sl : (ts.map fun t => t.bind (spG g w)).length = ts.length := List.length_map ..
    generalize (ts.map fun t => t.bind (spG g w)) = S at lp sl q ⊢
    have yl := lp.len
    refine ⟨(by show 0 ≤ sizeLine; decide), fun F nF => ?_⟩
    have sF := same_upd nF (o := .lst [])
    have eF : (L2.upd H1 F (.lst [])) F = some (.lst []) := upd_same
    generalize L2.upd H1 F (.lst []) = H2 at sF eF ⊢
    refine ⟨_, rfl, L, ys, rfl, SqL.of (sF _ _ eL), ?_⟩
    have lp2 : Lp (SpV H2) ys S := lp.map fun v a h => h.tp (tp_same sF)
    refine for_it (walk_enum (K := K) (a := L) (xs := ys)) (fun i σ Hx => ∃ (c5 c6 : Option V), σ = [some v, some (.ref T0), some nm, some (.ref L), some (.ref F), c5, c6] ∧ L2.Same H1 Hx ∧ Hx F = some (.lst ((htl S i).map V.int))) ⟨none, none, rfl, sF, eF⟩ (fun i σ Hx _ z => by obtain ⟨_, _, _, z, _⟩ := z; exact SqL.of (z _ _ eL)) ?_ ?_
    · rintro i x σ Hx H' il ⟨c5, c6, rfl, sx, eFx⟩ ⟨t, x1, y1, rfl, nt, rfl, ex1, ey1⟩
      replace ex1 : some (V.int (i : Nat)) = some x1 := ex1
      cases ex1
      replace ey1 : ys[i]? = some y1 := ey1
      obtain ⟨o, eo, so⟩ := lp.get ey1
      have st := same_upd nt (o := .tup [.int (i : Nat), y1])
      have so2 := so.tp (tp_same (sx.trans st))
      have eF2 := st _ _ eFx
      have et : (L2.upd Hx t (.tup [.int (i : Nat), y1])) t = some (.tup [.int (i : Nat), y1]) := upd_same
      have sxt := sx.trans st
      have nF1 : H1 F = none := nF
      generalize L2.upd Hx t (.tup [.int (i : Nat), y1]) = H3 at so2 eF2 et sxt ⊢
      refine ⟨t, _, rfl, SqT.of et, rfl, _, _, rfl, _, _, rfl, rfl, ?_⟩
      have hs : htl S (i + 1) = htl S i ++ [match S[i]? with
        | some (some s) => lh S (htl S i) s i
        | _ => 0] := by rw [htl] <;> rfl
      have il2 : i < S.length := by omega
      refine ⟨_, rfl, .inl ⟨rfl, _, SqL.of eF2⟩, ?_⟩
      cases o with
      | none =>
        obtain rfl : y1 = .non := so2
        refine ⟨_, rfl, rfl, _, rfl, iteT ⟨F, _, .int 0, rfl, rfl, eF2, ?_, ?_⟩⟩
        · rw [List.length_map, htl_len]
          exact Nat.lt_of_le_of_lt (show i ≤ 100 by omega) (by decide)
        · refine ⟨_, _, rfl, fun b o e => ?_, ?_⟩
          · rw [upd_ne (ne_of_none e nF1)]
            exact sxt _ _ e
          · rw [upd_same, hs, eo, List.map_append]
            rfl
      | some s =>
        obtain ⟨u, rfl, eu⟩ := so2
        refine ⟨_, rfl, rfl, _, rfl, iteF ⟨_, rfl, _, rfl, _, rfl, L, F, ys, S, htl S i, i, s, rfl, sxt _ _ eL, lp.map (fun v a h => h.tp (tp_same sxt)), by omega, .inl eF2, by rw [htl_len]; exact Nat.le_refl _, eo, fun H4 s4 => ?_⟩⟩
        have eF4 := s4 _ _ eF2
        refine ⟨F, _, _, rfl, rfl, eF4, ?_, ?_⟩
        · rw [List.length_map, htl_len]
          exact Nat.lt_of_le_of_lt (show i ≤ 100 by omega) (by decide)
        · refine ⟨_, _, rfl, fun b o e => ?_, ?_⟩
          · rw [upd_ne (ne_of_none e nF1)]
            exact s4 _ _ (sxt _ _ e)
          · rw [upd_same, hs, eo, List.map_append]
            rfl
    · rintro σ Hx ⟨c5, c6, rfl, sx, eFx⟩
      refine ⟨_, rfl, F, _, rfl, .inl ⟨SqL.of eFx, fun t nt => q t _ ((s1.trans sx).trans (same_upd nt)) ?_⟩⟩
      rw [upd_same, yl, sl]
end
end K44
set_option Elab.async false
set_option linter.all false
set_option maxRecDepth 100000
set_option maxHeartbeats 4000000
set_option pp.maxSteps 400
set_option pp.deepTerms false
namespace K44
open PySem PySem.Spec PyProof.Rows L2
open Xk Az W37
section
variable {P : Program} {w : World} {K : PySem.W.Frag} {mg : Str → Option Value} {base : Heap}
def isStr : PyData → Bool
  | .str _ => true
  | _ => false
def isTup : PyData → Bool
  | .tuple _ => true
  | _ => false
theorem z_str : ∀ d : PyData, PySem.W.kitOne K (.type (kindD d)) (.type "str") = some (isStr d)
  | .none => kit_ty (a := "NoneType") (b := "str") (r := false) (by decide +kernel)
  | .bool _ => kit_ty (a := "bool") (b := "str") (r := false) (by decide +kernel)
  | .int _ => kit_ty (a := "int") (b := "str") (r := false) (by decide +kernel)
  | .str _ => kit_ty (a := "str") (b := "str") (r := true) (by decide +kernel)
  | .list _ => kit_ty (a := "list") (b := "str") (r := false) (by decide +kernel)
  | .tuple _ => kit_ty (a := "tuple") (b := "str") (r := false) (by decide +kernel)
  | .dict _ => kit_ty (a := "dict") (b := "str") (r := false) (by decide +kernel)
theorem z_tup : ∀ d : PyData, PySem.W.kitOne K (.type (kindD d)) (.type "tuple") = some (isTup d)
  | .none => kit_ty (a := "NoneType") (b := "tuple") (r := false) (by decide +kernel)
  | .bool _ => kit_ty (a := "bool") (b := "tuple") (r := false) (by decide +kernel)
  | .int _ => kit_ty (a := "int") (b := "tuple") (r := false) (by decide +kernel)
  | .str _ => kit_ty (a := "str") (b := "tuple") (r := false) (by decide +kernel)
  | .list _ => kit_ty (a := "list") (b := "tuple") (r := false) (by decide +kernel)
  | .tuple _ => kit_ty (a := "tuple") (b := "tuple") (r := true) (by decide +kernel)
  | .dict _ => kit_ty (a := "dict") (b := "tuple") (r := false) (by decide +kernel)
def isI : V → Bool
  | .int _ => true
  | _ => false
def wiV (v : V) (a b : Int) : Bool := match v with
  | .int i => decide (a ≤ i) && decide (i ≤ b)
  | _ => false
def spWhole (K : PySem.W.Frag) : Sp := fun vs H Q _ => ∃ (v : V) (d : PyData), vs = [v] ∧ Dz K H v d ∧ Q (.bl (isI v)) H
def spWithin (K : PySem.W.Frag) : Sp := fun vs H Q _ => ∃ (v : V) (d : PyData) (a b : Int), vs = [v, .int a, .int b] ∧ Dz K H v d ∧ Q (.bl (wiV v a b)) H
theorem ok_whole {f : Addr} {fd : FuncData} (D : Df K mg "is_whole" ["thing"] sIsWhole f fd) (T : Txt mg) : FnOk P w K mg base CX0 1 f fd ["thing"] (spWhole K) := by
  refine D.fn.ok scIsWhole (fun vs H Q E h => ?_) (fun cdv A outer s H vs Q E hr h => ?_)
  · obtain ⟨v, d, rfl, h, q⟩ := h
    rfl
  · obtain ⟨v, d, rfl, h, q⟩ := h
    refine ⟨_, (pss_one (ps_ret (pe_and (pe_callB call_isi (by rfl) T.isi (by decide +kernel) (pa_cons (pv 0) (pa_cons (pe_bltn (v := .ty "int") (by rfl) T.int (by decide +kernel) rfl) pa_nil))) (pe_one (pe_not (pe_callB call_isi (by rfl) T.isi (by decide +kernel) (pa_cons (pv 0) (pa_cons (pe_bltn (v := .ty "bool") (by rfl) T.bool (by decide +kernel) rfl) pa_nil)))))))), ?_⟩
    cases h with
    | int i =>
      refine ⟨_, rfl, _, _, _, _, true, rfl, .ty _, (.base (.int i)), kit_ty (by decide +kernel), true, rfl, iteT ?_⟩
      exact ⟨_, rfl, _, _, _, _, false, rfl, .ty _, (.base (.int i)), kit_ty (by decide +kernel), false, rfl, q⟩
    | bl b =>
      refine ⟨_, rfl, _, _, _, _, true, rfl, .ty _, (.base (.bl b)), kit_ty (by decide +kernel), true, rfl, iteT ?_⟩
      exact ⟨_, rfl, _, _, _, _, true, rfl, .ty _, (.base (.bl b)), kit_ty (by decide +kernel), true, rfl, q⟩
    | non => exact ⟨_, rfl, _, _, _, _, false, rfl, .ty _, (.base .non : TyX K H .non (.type "NoneType")), kit_ty (by decide +kernel), false, rfl, iteF q⟩
    | str x => exact ⟨_, rfl, _, _, _, _, false, rfl, .ty _, (.base (.str x) : TyX K H (.str x) (.type "str")), kit_ty (by decide +kernel), false, rfl, iteF q⟩
    | lst e _ _ => exact ⟨_, rfl, _, _, _, _, false, rfl, .ty _, (.base (.lst e)), kit_ty (by decide +kernel), false, rfl, iteF q⟩
    | tup e _ => exact ⟨_, rfl, _, _, _, _, false, rfl, .ty _, (.base (.tup e)), kit_ty (by decide +kernel), false, rfl, iteF q⟩
    | dct e _ => exact ⟨_, rfl, _, _, _, _, false, rfl, .ty _, (.base (.dK e)), kit_ty (by decide +kernel), false, rfl, iteF q⟩
theorem ok_within {f : Addr} {fd : FuncData} (D : Df K mg "is_within" ["thing", "least", "most"] sIsWithin f fd) (cW : Ca P w K mg base 1 "is_whole" ["thing"] (spWhole K)) : FnOk P w K mg base CX0 2 f fd ["thing", "least", "most"] (spWithin K) := by
  refine D.fn.ok scIsWithin (fun vs H Q E h => ?_) (fun cdv A outer s H vs Q E hr h => ?_)
  · obtain ⟨v, d, a, b, rfl, h, q⟩ := h
    rfl
  · obtain ⟨v, d, a, b, rfl, h, q⟩ := h
    refine ⟨_, (pss_one (ps_ret (pe_and (pe_ca cW hr (by decide) (by rfl) (pa_cons (pv 0) pa_nil)) (pe_one (pe_chain op_le op_le (pv 1) (pv 0) (pv 2)))))), ?_⟩
    refine ⟨_, rfl, v, d, rfl, h, _, rfl, ?_⟩
    cases v with
    | int i =>
      refine iteT ⟨_, rfl, _, rfl, a, i, rfl, rfl, _, rfl, ?_⟩
      have q' : Q (.bl (decide (a ≤ i) && decide (i ≤ b))) H := q
      cases e : decide (a ≤ i) with
      | true =>
        rw [e, Bool.true_and] at q'
        exact iteT ⟨_, rfl, i, b, rfl, rfl, q'⟩
      | false =>
        rw [e, Bool.false_and] at q'
        exact iteF q'
    | _ => exact iteF q
def bls (S : Spl) (p : List Int) (i : Nat) : Option Bool := match S[i]? with
  | some (some s) => some (decide (lh S p s i ≤ p.getD i 0))
  | _ => none
theorem all_fm {α : Type} (g : α → Option Bool) (f : α → Bool) : ∀ (l : List α), (∀ a ∈ l, f a = (g a).getD true) → (l.filterMap g).all id = l.all f
  | [], _ => rfl
  | a :: r, h => by
    have ih := all_fm g f r fun b hb => h b (List.mem_cons_of_mem _ hb)
    have ha := h a List.mem_cons_self
    rw [List.filterMap_cons, List.all_cons, ha, ← ih]
    cases g a with
    | none => simp
    | some b => simp
theorem ok_sm {f : Addr} {fd : FuncData} {C : Addr} (F : FunD K "shows_most" "shows_most" (defArgs sShowsMost) (defBody sShowsMost) (defScope sShowsMost) [.non] [] f fd) (T : Txt mg) (cWi : Ca P w K mg base 2 "is_within" ["thing", "least", "most"] (spWithin K)) (cSOs : Ca P w K mg base 8 "spans_of" ["work", "titles", "names"] (spSOs K C)) (cLH : Ca P w K mg base 2 "least_height" ["spans", "known", "number"] (spLH K)) : FnOk P w K mg base CX0 9 f fd ["work", "titles", "many", "thing", "names"] (spSM K C) := by
  refine okN F scShowsMost (fun vs H Q E h => ?_) (fun cdv A outer s H vs Q E hr h => ?_)
  · obtain ⟨v, T0, xs, w, ts, nm, g, n, P0, p, rfl, or_, wk, hd, hl, an, eT, tl, l30, at_, eP, pl, q⟩ := h
    rfl
  · obtain ⟨v, T0, xs, w, ts, nm, g, n, P0, p, rfl, or_, wk, hd, hl, an, eT, tl, l30, at_, eP, pl, q⟩ := h
    refine ⟨_, (pss_cons (ps_if (PW.pt (pw_or (pt_not (pt_val (pe_callB call_isi (by rfl) T.isi (by decide +kernel) (pa_cons (pv 3) (pa_cons (pe_bltn (v := .ty "tuple") (by rfl) T.tuple (by decide +kernel) rfl) pa_nil))))) (pw_or1 (pt_cmpR op_ne (pe_callB call_len_seq (by rfl) T.len PySem.boot_len (pa_cons (pv 3) pa_nil)) (pe_callB call_len_seq (by rfl) T.len PySem.boot_len (pa_cons (pv 1) pa_nil)) (nomark _))))) (pss_one (ps_ret pe_bl)) pss_nil)
      (pss_cons (ps_if (pt_not (pt_val (pe_callB (cr_all (by rfl)) (by rfl) T.all (by decide +kernel) (pa_cons (pe_lc (own := [("height", 6)]) (g := gName 6) (tt := tYes) (te := tCall (spWithin K) [] E0 (tCons (tVar 6) (tCons (tC (.int 0)) (tCons (tVar 2) tNil)))) (by rfl) scShowsMost.nd (pi_tup (pv 3)) (blkOk_by (own := [("height", 6)]) (N := ["work", "titles", "many", "thing", "names", "spans", "height", "number"]) (sc := defScope sShowsMost) (by decide +kernel)) (fun _ _ _ _ _ => pg_name (i := 6) scShowsMost.nd rfl (.inl rfl)) (fun _ _ _ _ _ => pts_nil) (fun _ _ _ _ _ => pe_ca cWi hr (by decide) (by rfl) (pa_cons (pv 6) (pa_cons pe_int (pa_cons (pv 2) pa_nil))))) pa_nil)))) (pss_one (ps_ret pe_bl)) pss_nil)
      (pss_cons (ps_set (i := 5) scShowsMost.nd rfl (.inr rfl) (pe_ca cSOs hr (by decide) (by rfl) (pa_cons (pv 0) (pa_cons (pv 1) (pa_cons (pv 4) pa_nil)))))
      (pss_one (ps_ret (pe_callB (cr_all (by rfl)) (by rfl) T.all (by decide +kernel) (pa_cons (pe_lc (own := [("number", 7)]) (g := gName 7) (tt := tTest (tOp (fun x y H Q => y = V.non ∧ Q (V.bl !decide (x = V.non)) H) (tOp (rIxL K) (tVar 5) (tVar 7)) (tC .non))) (te := tOp (rI0 fun i j => V.bl (decide (i ≥ j))) (tOp (rIxT K) (tVar 3) (tVar 7)) (tCall (spLH K) [] E0 (tCons (tVar 5) (tCons (tVar 3) (tCons (tVar 7) tNil))))) (by rfl) scShowsMost.nd (pi_range1 (by rfl) T.range (pa_cons (pe_callB call_len_seq (by rfl) T.len PySem.boot_len (pa_cons (pv 5) pa_nil)) pa_nil)) (blkOk_by (own := [("number", 7)]) (N := ["work", "titles", "many", "thing", "names", "spans", "height", "number"]) (sc := defScope sShowsMost) (by decide +kernel)) (fun _ _ _ _ _ => pg_name (i := 7) scShowsMost.nd rfl (.inl rfl)) (fun _ _ _ _ _ => (pts_one (pt_cmpR op_notN (pe_ix ix_list (pv 5) (pv 7) (fun _ _ => rfl)) pe_non (nomark _)))) (fun _ _ _ _ _ => pe_cmpR op_ge (pe_ix ix_tup (pv 3) (pv 7) (fun _ _ => rfl)) (pe_ca cLH hr (by decide) (by rfl) (pa_cons (pv 5) (pa_cons (pv 3) (pa_cons (pv 7) pa_nil)))) (nomark _))) pa_nil))))))), ?_⟩
    have xl := tl.len
    refine ⟨_, rfl, _, _, _, _, true, rfl, .ty _, .base (.tup eP), kit_ty (by decide +kernel), true, rfl, iteF ?_⟩
    refine ⟨_, rfl, P0, _, rfl, .inr (SqT.of eP), _, rfl, T0, xs, rfl, .inr eT, rfl, _, rfl, ?_⟩
    have le : (!decide (V.int (((p.map V.int).length : Nat) : Int) = V.int ((xs.length : Nat) : Int))) = false := by
      rw [List.length_map, pl, xl]
      simp
    rw [le]
    refine iteF ?_
    refine ⟨_, rfl, P0, rfl, ⟨_, SqT.of eP⟩, fun D nD' => ?_⟩
    refine lc_tup (K := K) (a := P0) (xs := p.map V.int) (fun i Hi => L2.Same H Hi ∧ Hi D = some (.lst (((p.take i).map fun h => decide (0 ≤ h) && decide (h ≤ n)).map V.bl))) ⟨same_upd nD', upd_same⟩ (fun i Hi _ z => SqT.of (z.1 _ _ eP)) ?_ ?_
    · rintro i x Hi hx ⟨sm, eD⟩
      rw [List.getElem?_map] at hx
      obtain ⟨h, eh, rfl⟩ := Option.map_eq_some_iff.mp hx
      have il := (List.getElem?_eq_some_iff.mp eh).1
      refine ⟨rfl, ?_⟩
      unfold tYes
      refine iteT ⟨_, rfl, _, rfl, .int h, .int h, 0, n, rfl, .int h, _, eD, ?_, fun b o e => ?_, ?_⟩
      · rw [List.length_map, List.length_map, List.length_take]
        exact Nat.lt_of_le_of_lt (show min i p.length ≤ 100 by omega) (by decide)
      · rw [upd_ne (ne_of_none e nD')]
        exact sm _ _ e
      · rw [upd_same, List.take_add_one, eh, List.map_append, List.map_append]
        rfl
    rintro H1 ⟨s1, eD⟩
    rw [List.take_of_length_le (by rw [List.length_map]; exact Nat.le_refl _)] at eD
    refine ⟨D, _, rfl, SqL.of eD, _, rfl, ?_⟩
    have ea : ((p.map fun h => decide (0 ≤ h) && decide (h ≤ n)).all id) = p.all fun h => decide (0 ≤ h) && decide (h ≤ n) := by rw [List.all_map]; rfl
    rw [ea]
    have sl : (ts.map fun t => t.bind (spG g w)).length = ts.length := List.length_map ..
    cases c : p.all fun h => decide (0 ≤ h) && decide (h ≤ n) with
    | false =>
      refine iteT ?_
      have w9 := q H1 s1
      unfold smB at w9
      rw [c] at w9
      exact w9
    | true =>
      refine iteF ⟨_, rfl, _, rfl, _, rfl, v, T0, xs, w, ts, nm, g, rfl, or_.same s1, wk.tp (tp_same s1), hd, hl, an, Xlm.sqT_extN (LamX.ExtN.of s1) eT, tl.map (fun v a h => h.tp (tp_same s1)), l30, at_, fun L ys H2 s2 nL eL lp => ?_⟩
      unfold smB at q
      rw [c, Bool.true_and] at q
      generalize (ts.map fun t => t.bind (spG g w)) = S at lp sl q ⊢
      have yl := lp.len
      have eP2 := s2 _ _ (s1 _ _ eP)
      refine ⟨_, rfl, L, ys, rfl, .inl (SqL.of eL), _, rfl, by omega, by omega, fun E2 nE2 => ?_⟩
      refine lc_range (lo := 0) (fun k Hk => L2.Same H2 Hk ∧ Hk E2 = some (.lst (((List.range k).filterMap (bls S p)).map V.bl))) ⟨same_upd nE2, upd_same⟩ ?_ ?_
      · rintro k Hk kl ⟨sm, eE⟩
        have kl : k < S.length := by omega
        have z0 : (0 : Int) + (k : Nat) = (k : Int) := by omega
        rw [z0]
        obtain ⟨vk, evk, sk⟩ := lp.at_ (List.getElem?_eq_getElem kl)
        have bs : (List.range (k + 1)).filterMap (bls S p) = (List.range k).filterMap (bls S p) ++ (bls S p k).toList := by
          rw [List.range_succ, List.filterMap_append, List.filterMap_cons, List.filterMap_nil]
          cases bls S p k <;> rfl
        have bl : ((List.range k).filterMap (bls S p)).length ≤ k := Nat.le_trans (List.length_filterMap_le _ _) (by rw [List.length_range]; exact Nat.le_refl _)
        refine ⟨rfl, ?_⟩
        refine ⟨_, rfl, _, rfl, L, ys, (k : Int), vk, rfl, rfl, SqL.of (sm _ _ eL), atI_nat evk, rfl, _, rfl, ?_⟩
        cases eo : S[k] with
        | none =>
          rw [eo] at sk
          obtain rfl : vk = .non := sk
          have b0 : bls S p k = none := by unfold bls; rw [List.getElem?_eq_getElem kl, eo]
          rw [b0] at bs
          refine iteF ⟨sm, ?_⟩
          rw [bs]
          simpa using eE
        | some s =>
          rw [eo] at sk
          obtain ⟨u, rfl, eu⟩ := sk
          have es : S[k]? = some (some s) := by rw [List.getElem?_eq_getElem kl, eo]
          have b0 : bls S p k = some (decide (lh S p s k ≤ p.getD k 0)) := by unfold bls; rw [es]
          rw [b0] at bs
          have pk : (p.map V.int)[k]? = some (.int (p.getD k 0)) := by rw [List.getElem?_map, List.getD_eq_getElem?_getD, List.getElem?_eq_getElem (by omega)]; rfl
          refine iteT ⟨_, rfl, _, rfl, P0, _, (k : Int), _, rfl, rfl, SqT.of (sm _ _ eP2), atI_nat pk, ?_⟩
          refine ⟨_, rfl, _, rfl, _, rfl, L, P0, ys, S, p, k, s, rfl, sm _ _ eL, lp.map (fun v a h => h.tp (tp_same sm)), by omega, .inr (sm _ _ eP2), by omega, es, fun H4 s4 => ?_⟩
          refine ⟨_, _, rfl, rfl, _, s4 _ _ eE, ?_, fun b o e => ?_, ?_⟩
          · rw [List.length_map]
            exact Nat.lt_of_le_of_lt (show _ ≤ 100 by omega) (by decide)
          · rw [upd_ne (ne_of_none e nE2)]
            exact s4 _ _ (sm _ _ e)
          · rw [upd_same, bs, List.map_append]
            rfl
      · rintro He ⟨sm, eE⟩
        rw [Int.toNat_natCast, yl] at eE
        refine ⟨E2, _, rfl, SqL.of eE, ?_⟩
        have w9 := q He ((s1.trans s2).trans sm)
        have e9 := all_fm (bls S p) (fun i => match S[i]? with
          | some (some s) => decide (lh S p s i ≤ p.getD i 0)
          | _ => true) (List.range S.length) fun i hi => by
            unfold bls
            cases h : S[i]? with
            | none => rfl
            | some o => cases o <;> rfl
        rw [e9]
        exact w9
end
end K44
set_option Elab.async false
set_option linter.all false
set_option maxRecDepth 100000
set_option maxHeartbeats 4000000
set_option pp.maxSteps 400
set_option pp.deepTerms false
namespace K44
open PySem PySem.Spec PyProof.Rows L2
open Xk Az W37
section
variable {P : Program} {w : World} {K : PySem.W.Frag} {mg : Str → Option Value} {base : Heap}
def spTi : Sp := fun vs H Q _ => ∃ (h N O : Addr) (n : Int) (xn xo : List V) (ns no : List Nm), vs = [.ref h, .ref N, .ref O, .int 7] ∧ Hand n H h ∧ n + 100 ≤ far ∧ H N = some (.lst xn) ∧ N ≠ h ∧ NmL H xn ns ∧ ns ≠ [] ∧ ns.length ≤ 100 ∧ H O = some (.lst xo) ∧ O ≠ h ∧ NmL H xo no ∧ no ≠ [] ∧ no.length ≤ 100 ∧
  ∀ (t : Addr) xs (ts : List (Option Nm)) H', H' t = some (.tup xs) → Lp (TtV H') xs ts → ts.length ≤ 7 → (∀ m, some m ∈ ts → m ∈ ns ∨ m ∈ no) → Hand (n + 60) H' h → But h H H' → Q (.ref t) H'
theorem ok_ti {f : Addr} {fd : FuncData} (D : Df K mg "_law_titles" ["_law_hand_here", "_law_several", "_law_others", "_law_most"] sTitles f fd) (T : Txt mg) (cT : Ca P w K mg base 1 "_law_take" ["_law_hand_here", "_law_many"] spTake) (cP : Ca P w K mg base 2 "_law_pick" ["_law_hand_here", "_law_some"] spPick) : FnOk P w K mg base CX0 3 f fd ["_law_hand_here", "_law_several", "_law_others", "_law_most"] spTi := by
  refine D.fn.ok scTitles (fun vs H Q E h => ?_) (fun cdv A outer s H vs Q E hr h => ?_)
  · obtain ⟨h, N, O, n, xn, xo, ns, no, rfl, hd, hn, eN, Nh, nN, nne, n100, eO, Oh, nO, one, o100, q⟩ := h
    rfl
  · obtain ⟨h, N, O, n, xn, xo, ns, no, rfl, hd, hn, eN, Nh, nN, nne, n100, eO, Oh, nO, one, o100, q⟩ := h
    refine ⟨_, (pss_cons (ps_par (i := 4) (j := 5) (by rfl) scTitles.nd rfl rfl (by decide) rfl rfl (pa_cons (pe_lst pa_nil) (pa_cons pe_int pa_nil)) (by rfl))
      (pss_cons (ps_for PassesOwn.never rfl (pi_range1 (by rfl) T.range (pa_cons (pe_ca cT hr (by decide) (by rfl) (pa_cons (pv 0) (pa_cons (pe_op op_add (pv 3) pe_int) pa_nil))) pa_nil)) (pg_name (i := 6) scTitles.nd rfl (.inl rfl)) (pss_cons (ps_set (i := 7) scTitles.nd rfl (.inl rfl) (pe_ca cT hr (by decide) (by rfl) (pa_cons (pv 0) (pa_cons pe_int pa_nil))))
      (pss_one (ps_if (pt_cmpR op_lt (pv 7) pe_int (nomark _)) (pss_cons (ps_set (i := 5) scTitles.nd rfl (.inl rfl) (pe_callB (call_min2 (by rfl)) (by rfl) T.min (by decide +kernel) (pa_cons (pe_op op_sub (pe_callB call_len_seq (by rfl) T.len PySem.boot_len (pa_cons (pv 1) pa_nil)) pe_int) (pa_cons (pe_op op_add (pv 5) (pe_ca cT hr (by decide) (by rfl) (pa_cons (pv 0) (pa_cons pe_int pa_nil)))) pa_nil))))
      (pss_one (ps_expr (pe_bm PySem.F.plainAttrs_list PySem.F.slot_list_append PySem.F.type_list_append mt_append (pv 4) (pa_cons (pe_ix ix_list (pv 1) (pv 5) (fun _ _ => rfl)) pa_nil))))) (pss_one (ps_if (pt_cmpR op_lt (pv 7) pe_int (nomark _)) (pss_one (ps_expr (pe_bm PySem.F.plainAttrs_list PySem.F.slot_list_append PySem.F.type_list_append mt_append (pv 4) (pa_cons (pe_ca cP hr (by decide) (by rfl) (pa_cons (pv 0) (pa_cons (pv 1) pa_nil))) pa_nil)))) (pss_one (ps_expr (pe_bm PySem.F.plainAttrs_list PySem.F.slot_list_append PySem.F.type_list_append mt_append (pv 4) (pa_cons (pe_ca cP hr (by decide) (by rfl) (pa_cons (pv 0) (pa_cons (pe_lst (pa_cons pe_non (pa_cons (pe_ca cP hr (by decide) (by rfl) (pa_cons (pv 0) (pa_cons (pv 2) pa_nil))) pa_nil))) pa_nil))) pa_nil))))))))))
      (pss_one (ps_ret (pe_callTy call_tuple_of (by rfl) T.tuple (by decide +kernel) (pa_cons (pv 4) pa_nil)))))), ?_⟩
    have fr : n + 100 ≤ 1000000 := hn
    have xnl := nN.len
    have xol := nO.len
    have tpB : ∀ {Hx Hy : Hp} {m : Int}, Hand m Hx h → But h Hx Hy → Tp Hx Hy := fun {Hx Hy m} hx b c ys e => b c _ (hx.ne_tup (K := K) e) e
    have n0 : 0 < ns.length := List.length_pos_iff.mpr nne
    refine ⟨(by show 0 ≤ sizeLine; decide), fun F nF => ⟨_, _, rfl, ?_⟩⟩
    have sF := same_upd nF (o := .lst [])
    have eF : (L2.upd H F (.lst [])) F = some (.lst []) := upd_same
    have HF : H F = none := nF
    have Fh := hd.fresh nF
    have bF : But h H (L2.upd H F (.lst [])) := Same.but sF h
    have hF := hd.same sF
    generalize L2.upd H F (.lst []) = H0 at sF eF bF hF ⊢
    refine ⟨_, rfl, _, rfl, 7, 1, rfl, rfl, h, 8, n, rfl, by decide, by decide, hF, by show n ≤ 1000000; omega, fun d H1 d0 d1 h1 b1 => ?_⟩
    refine ⟨_, rfl, by omega, by omega, for_range (lo := 0) (n := d.toNat) (fun k σ Hx => ∃ (ys : List V) (ts : List (Option Nm)) (at_ : Int) (c6 c7 : Option V), σ = [some (.ref h), some (.ref N), some (.ref O), some (.int 7), some (.ref F), some (.int at_), c6, c7] ∧ 0 ≤ at_ ∧ at_ < ((ns.length : Nat) : Int) ∧ Hx F = some (.lst ys) ∧ Lp (TtV Hx) ys ts ∧ ts.length = k ∧ (∀ m, some m ∈ ts → m ∈ ns ∨ m ∈ no) ∧ Hand (n + 1 + 5 * k) Hx h ∧ But h H Hx) ?_ ?_ ?_⟩
    · exact ⟨[], [], 0, none, none, rfl, Int.le_refl _, by omega, b1 _ _ Fh eF, .nil, rfl, (fun m hm => by cases hm), h1.mono (by omega), bF.trans b1⟩
    · rintro k σ Hx hk ⟨ys, ts, a, c6, c7, rfl, a0, a1, eFx, lp, tk, mem, hx, bx⟩
      have k7 : k < 7 := by omega
      have yl := lp.len
      -- what is put behind
      have put : ∀ (v : V) (o : Option Nm) (a' : Int) (m : Int) (Hy : Hp) (c6' c7' : Option V), Hand m Hy h → m ≤ n + 1 + 5 * (k + 1 : Nat) → But h Hx Hy → TtV Hy v o → (∀ m, o = some m → m ∈ ns ∨ m ∈ no) → 0 ≤ a' → a' < ((ns.length : Nat) : Int) → Hy F = some (.lst ys) ∧ ys.length < sizeLine ∧
          ∃ (ys' : List V) (ts' : List (Option Nm)) (at_ : Int) (c6 c7 : Option V), [some (V.ref h), some (.ref N), some (.ref O), some (.int 7), some (.ref F), some (.int a'), c6', c7'] = [some (.ref h), some (.ref N), some (.ref O), some (.int 7), some (.ref F), some (.int at_), c6, c7] ∧ 0 ≤ at_ ∧ at_ < ((ns.length : Nat) : Int) ∧ (L2.upd Hy F (.lst (ys ++ [v]))) F = some (.lst ys') ∧ Lp (TtV (L2.upd Hy F (.lst (ys ++ [v])))) ys' ts' ∧ ts'.length = k + 1 ∧ (∀ m, some m ∈ ts' → m ∈ ns ∨ m ∈ no) ∧ Hand (n + 1 + 5 * (k + 1 : Nat)) (L2.upd Hy F (.lst (ys ++ [v]))) h ∧ But h H (L2.upd Hy F (.lst (ys ++ [v]))) := fun v o a' m Hy c6' c7' hy hm bxy tv ho q0 q1 => by
        have eFy := bxy _ _ Fh eFx
        have up : Tp Hy (L2.upd Hy F (.lst (ys ++ [v]))) := tp_upd fun us z => by rw [eFy] at z; cases z
        refine ⟨eFy, Nat.lt_of_le_of_lt (show ys.length ≤ 100 by omega) (by decide), ys ++ [v], ts ++ [o], a', c6', c7', rfl, q0, q1, upd_same, (lp.map fun v a z => z.tp ((tpB hx bxy).trans up)).snoc (tv.tp up), by rw [List.length_append, tk]; rfl, fun m2 hm2 => ?_, (hy.upd (Ne.symm Fh)).mono hm, fun b o2 nb e => ?_⟩
        · rcases List.mem_append.mp hm2 with z | z
          · exact mem m2 z
          · exact ho m2 (List.mem_singleton.mp z).symm
        · rw [upd_ne (ne_of_none e HF)]
          exact bxy b o2 nb (bx b o2 nb e)
      refine ⟨_, rfl, h, 8, _, rfl, by decide, by decide, hx, by show n + 1 + 5 * (k : Int) ≤ 1000000; omega, fun wy H2 w0 w1 h2 b2 => ?_⟩
      refine ⟨_, rfl, _, 4, rfl, rfl, _, rfl, ite2 (fun e => ?_) (fun e => ?_)⟩
      · refine ⟨_, rfl, N, xn, rfl, .inl (SqL.of (b2 _ _ Nh (bx _ _ Nh eN))), _, 1, rfl, rfl, _, rfl, _, rfl, h, 3, _, rfl, by decide, by decide, h2, by show n + 1 + 5 * (k : Int) + 1 ≤ 1000000; omega, fun d3 H3 d30 d31 h3 b3 => ?_⟩
        obtain ⟨j, hj, ej⟩ : ∃ j : Nat, j < ns.length ∧ (if a + d3 < ((xn.length : Nat) : Int) - 1 then a + d3 else ((xn.length : Nat) : Int) - 1) = (j : Int) := by
          split
          · exact ⟨(a + d3).toNat, by omega, by omega⟩
          · exact ⟨xn.length - 1, by omega, by omega⟩
        have b23 := b2.trans b3
        have bx3 := bx.trans b23
        have hj2 : j < xn.length := by omega
        obtain ⟨mj, emj, nvj⟩ := nN.get (List.getElem?_eq_getElem hj2)
        have tv : TtV H3 xn[j] (some mj) := nvj.tp (tpB hd bx3)
        refine ⟨_, _, rfl, rfl, ⟨_, _, rfl, ?_⟩⟩
        rw [ej]
        obtain ⟨eF3, l3, fin⟩ := put xn[j] (some mj) (j : Int) _ H3 _ _ h3 (by omega) b23 tv (fun m hm => by cases hm; exact .inl (List.mem_of_getElem? emj)) (by omega) (by omega)
        exact ⟨_, rfl, .inl ⟨rfl, _, SqL.of eF3⟩, _, rfl, _, rfl, N, xn, (j : Int), _, rfl, rfl, SqL.of (bx3 _ _ Nh eN), atI_nat (List.getElem?_eq_getElem hj2), F, ys, _, rfl, rfl, eF3, l3, fin⟩
      · refine ⟨_, rfl, _, 6, rfl, rfl, _, rfl, ite2 (fun e => ?_) (fun e => ?_)⟩
        · have bx2 := bx.trans b2
          refine ⟨_, rfl, .inl ⟨rfl, _, SqL.of (b2 _ _ Fh eFx)⟩, _, rfl, _, rfl, h, _, _, rfl, h2, by show n + 1 + 5 * (k : Int) + 1 ≤ 1000000; omega, .inl ⟨N, xn, rfl, bx2 _ _ Nh eN, Nh, (fun z => by rw [z] at xnl; simp at xnl; omega), by omega, fun v H3 mv h3 b3 => ?_⟩⟩
          obtain ⟨mj, hm, nv⟩ := nN.mem mv
          obtain ⟨eF3, l3, fin⟩ := put v (some mj) a _ H3 _ _ h3 (by omega) (b2.trans b3) (show NmV H3 v mj from nv.tp (tpB hd (bx2.trans b3))) (fun m hm2 => by cases hm2; exact .inl hm) a0 a1
          exact ⟨F, ys, _, rfl, rfl, eF3, l3, fin⟩
        · have bx2 := bx.trans b2
          refine ⟨_, rfl, .inl ⟨rfl, _, SqL.of (b2 _ _ Fh eFx)⟩, _, rfl, _, rfl, _, rfl, h, _, _, rfl, h2, by show n + 1 + 5 * (k : Int) + 1 ≤ 1000000; omega, .inl ⟨O, xo, rfl, bx2 _ _ Oh eO, Oh, (fun z => by rw [z] at xol; exact one (List.eq_nil_of_length_eq_zero (by simpa using xol.symm))), by omega, fun v H3 mv h3 b3 => ?_⟩⟩
          obtain ⟨mj, hm, nv⟩ := nO.mem mv
          refine ⟨(by show 2 ≤ sizeLine; decide), fun L nL => ?_⟩
          have sL := same_upd nL (o := .lst [.non, v])
          have Lh := h3.fresh nL
          have hL := h3.same sL
          have eL : (L2.upd H3 L (.lst [.non, v])) L = some (.lst [.non, v]) := upd_same
          have bL : But h H3 (L2.upd H3 L (.lst [.non, v])) := Same.but sL h
          generalize L2.upd H3 L (.lst [.non, v]) = H4 at hL eL bL ⊢
          refine ⟨h, _, _, rfl, hL, by show n + 1 + 5 * (k : Int) + 1 + 1 ≤ 1000000; omega, .inl ⟨L, _, rfl, eL, Lh, by simp, by show 2 < 1000; decide, fun v2 H5 mv2 h5 b5 => ?_⟩⟩
          have b25 := (b2.trans b3).trans (bL.trans b5)
          simp only [List.mem_cons, List.not_mem_nil, or_false] at mv2
          rcases mv2 with z | z
          · obtain ⟨eF3, l3, fin⟩ := put v2 none a _ H5 _ _ h5 (by omega) b25 z (fun m hm2 => by cases hm2) a0 a1
            exact ⟨F, ys, _, rfl, rfl, eF3, l3, fin⟩
          · obtain ⟨eF3, l3, fin⟩ := put v2 (some mj) a _ H5 _ _ h5 (by omega) b25 (show NmV H5 v2 mj by rw [z]; exact nv.tp (tpB hd (bx.trans b25))) (fun m hm2 => by cases hm2; exact .inr hm) a0 a1
            exact ⟨F, ys, _, rfl, rfl, eF3, l3, fin⟩
    · rintro σ Hx ⟨ys, ts, a, c6, c7, rfl, a0, a1, eFx, lp, tk, mem, hx, bx⟩
      refine ⟨_, rfl, F, ys, rfl, .inl ⟨SqL.of eFx, fun t nt => ?_⟩⟩
      have st := same_upd nt (o := .tup ys)
      exact q t ys ts _ upd_same (lp.map fun v a z => z.tp (tp_same st)) (by omega) mem ((hx.same st).mono (by omega)) (bx.trans (Same.but st h))
end
end K44
set_option Elab.async false
set_option linter.all false
set_option maxRecDepth 100000
set_option maxHeartbeats 4000000
set_option pp.maxSteps 400
set_option pp.deepTerms false
namespace K44
open PySem PySem.Spec PyProof.Rows L2
open Xk Az W37
section
variable {P : Program} {w : World} {K : PySem.W.Frag} {mg : Str → Option Value} {base : Heap}
abbrev Pair := Xnp.Pair
theorem r65 {k : Nat} {A : Around} (r : Room k A) : A.units + 65 < cLine := by have := r.un; omega
theorem nms_dp {H : Hp} : ∀ (xs : List V) (ns : List Nm), NmL H xs ns → (∀ m ∈ ns, An m) → DpAll K H xs (ns.map nD) ∧ PyData.canLayAll0 (ns.map nD) = true ∧ PyData.depthAll (ns.map nD) ≤ 3
  | _, _, .nil, _ => ⟨.nil, by simp [PyData.canLayAll0], by simp [PyData.depthAll]⟩
  | _, _, .cons (n := n) (ns := ns) ⟨t, e1, e2⟩ r, h => by
    obtain ⟨q1, q2, q3⟩ := nms_dp _ _ r (fun m hm => h m (List.mem_cons_of_mem _ hm))
    have a := h n List.mem_cons_self
    subst e1
    refine ⟨.cons (.tup (SqT.of e2) (.cons (.str _) (.cons (.str _) .nil))) q1, ?_, ?_⟩
    · rw [List.map_cons]
      simp [PyData.canLayAll0, PyData.canLay0, q2, nD, a.l1.asc.ok, a.c.asc.ok]
    · rw [List.map_cons]
      simp only [nD, PyData.depthAll, PyData.depth]
      omega
theorem any_eqv (ms : List Nm) (m : Nm) : ((ms.map nD).any fun z => PyData.eqv z (nD m)) = decide (m ∈ ms) := by
  rw [List.any_map, Bool.eq_iff_iff, List.any_eq_true, decide_eq_true_eq]
  simp only [Function.comp, eqv_nD, decide_eq_true_eq]
  constructor
  · rintro ⟨x, hx, rfl⟩; exact hx
  · intro h; exact ⟨m, h, rfl⟩
/-! what pairs lead to -/
def cB (es : List Pair) (F : List Nm) : Nat := (es.filter fun p => decide (p.1 ∈ F) && decide (p.2 ∈ F)).length
theorem cB_mono {es : List Pair} {F F' : List Nm} (h : ∀ x ∈ F, x ∈ F') : cB es F ≤ cB es F' := by
  unfold cB
  induction es with
  | nil => exact Nat.le_refl _
  | cons p r ih =>
    rw [List.filter_cons, List.filter_cons]
    by_cases c : p.1 ∈ F ∧ p.2 ∈ F
    · rw [if_pos (by simpa using c), if_pos (by simpa using ⟨h _ c.1, h _ c.2⟩), List.length_cons, List.length_cons]
      omega
    · rw [if_neg (by simpa using c)]
      split
      · rw [List.length_cons]; omega
      · exact ih
theorem cB_lt {es : List Pair} {F F' : List Nm} (h : ∀ x ∈ F, x ∈ F') {p : Pair} (m : p ∈ es) (hi : p.1 ∈ F' ∧ p.2 ∈ F') (no : ¬ (p.1 ∈ F ∧ p.2 ∈ F)) : cB es F < cB es F' := by
  induction es with
  | nil => cases m
  | cons q r ih =>
    have mono := cB_mono (es := r) h
    unfold cB at ih mono ⊢
    rw [List.filter_cons, List.filter_cons]
    rcases List.mem_cons.mp m with z | z
    · rw [← z, if_neg (by simpa using no), if_pos (by simpa using hi), List.length_cons]
      omega
    · have ih := ih z
      by_cases c : q.1 ∈ F ∧ q.2 ∈ F
      · rw [if_pos (by simpa using c), if_pos (by simpa using ⟨h _ c.1, h _ c.2⟩), List.length_cons, List.length_cons]
        omega
      · rw [if_neg (by simpa using c)]
        split
        · rw [List.length_cons]; omega
        · exact ih
theorem cB_all {es : List Pair} {F : List Nm} (h : es.length ≤ cB es F) : ∀ p ∈ es, p.1 ∈ F ∧ p.2 ∈ F := by
  unfold cB at h
  have e := List.length_filter_eq_length_iff.mp (Nat.le_antisymm (List.length_filter_le _ _) h)
  intro p hp
  have := e p hp
  simpa using this
def Cld (es : List Pair) (F : List Nm) : Prop := ∀ p ∈ es, (p.1 ∈ F ↔ p.2 ∈ F)
theorem Cld.rch {es : List Pair} {F : List Nm} (c : Cld es F) {a b : Nm} (h : Xnp.Rch es a b) (m : a ∈ F) : b ∈ F := by
  induction h with
  | refl => exact m
  | step r ad ih =>
    rcases ad with z | z
    · exact (c _ z).mp ih
    · exact (c _ z).mpr ih
noncomputable def ownN (es : List Pair) (w : W) (m : Nm) : Nm := (w.nms.find? fun n => N44.oneB es n m).getD m
theorem find_rows (f : Nm → Bool) : ∀ (rs : List Row), ((rs.map (·.1)).find? f) = (rs.find? fun r => f r.1).map (·.1)
  | [] => rfl
  | r :: rs => by
    rw [List.map_cons, List.find?_cons, List.find?_cons, find_rows f rs]
    cases f r.1 <;> rfl
theorem own_span (es : List Pair) (w : W) (m : Nm) : spG (fun a b => decide (a = b)) w (ownN es w m) = spG (fun a b => N44.oneB es a b) w m := by
  have rf : N44.oneB es m m = true := by
    unfold N44.oneB
    exact @decide_eq_true _ (Classical.propDecidable _) (Xnp.Rch.refl m)
  unfold spG ownN
  rw [← sps_nms w 0, find_rows]
  generalize sps w 0 = rs
  cases e : rs.find? fun r => N44.oneB es r.1 m with
  | none =>
    show ((rs.find? fun r => decide (r.1 = m)).map (·.2)) = none
    have : (rs.find? fun r => decide (r.1 = m)) = none := by
      rw [List.find?_eq_none] at e ⊢
      intro r hr c
      have c : r.1 = m := of_decide_eq_true c
      have := e r hr
      rw [c, rf] at this
      exact this rfl
    rw [this]
    rfl
  | some r =>
    show ((rs.find? fun r' => decide (r'.1 = r.1)).map (·.2)) = some r.2
    have : (rs.find? fun r' => decide (r'.1 = r.1)) = some r := by
      rw [List.find?_eq_some_iff_getElem] at e ⊢
      obtain ⟨a, i, h, e1, e2⟩ := e
      refine ⟨decide_eq_true rfl, i, h, e1, fun j hj => ?_⟩
      have := e2 j hj
      rw [Bool.not_eq_true', decide_eq_false_iff_not]
      intro c
      rw [c, a] at this
      cases this
    rw [this]
    rfl
noncomputable def spOwn : Sp := fun vs H Q _ => ∃ (v nv : V) (L : Addr) (ps : List V) (w : W) (m : Nm) (es : List Pair), vs = [v, nv, .ref L] ∧ Wk H v w ∧ w.dp ≤ 5 ∧ w.nms.length ≤ 100 ∧ (∀ m ∈ w.nms, An m) ∧ NmV H nv m ∧ An m ∧ H L = some (.lst ps) ∧ N44.PrL H ps es ∧ (∀ n ∈ Xnp.nodes es, An n) ∧ es.length ≤ 20 ∧
  ∀ r H', L2.Same H H' → NmV H' r (ownN es w m) → Q r H'
theorem PrL.get {H : Hp} : ∀ {vs : List V} {es : List Pair} {i : Nat} {v : V}, N44.PrL H vs es → vs[i]? = some v → ∃ (t : Addr) (a b : V) (p : Pair), v = .ref t ∧ es[i]? = some p ∧ H t = some (.tup [a, b]) ∧ NmV H a p.1 ∧ NmV H b p.2
  | _, _, _, _, .nil, e => by simp at e
  | _, _, 0, _, .cons h a b r, e => by
    rw [List.getElem?_cons_zero] at e
    cases e
    exact ⟨_, _, _, _, rfl, rfl, h, a, b⟩
  | _, _, i + 1, _, .cons h a b r, e => by
    rw [List.getElem?_cons_succ] at e
    obtain ⟨t, x, y, p, e1, e2, q⟩ := PrL.get r e
    exact ⟨t, x, y, p, e1, by rw [List.getElem?_cons_succ]; exact e2, q⟩
theorem PrL.len {H : Hp} : ∀ {vs : List V} {es : List Pair}, N44.PrL H vs es → vs.length = es.length
  | _, _, .nil => rfl
  | _, _, .cons _ _ _ r => by rw [List.length_cons, List.length_cons, PrL.len r]
theorem PrL.tp {H H' : Hp} (s : Tp H H') : ∀ {vs : List V} {es : List Pair}, N44.PrL H vs es → N44.PrL H' vs es
  | _, _, .nil => .nil
  | _, _, .cons h a b r => .cons (s _ _ h) (a.tp s) (b.tp s) (PrL.tp s r)
theorem ok_own {f : Addr} {fd : FuncData} (D : Df K mg "_law_own" ["_law_opus", "_law_title", "_law_pairs"] sOwn f fd) (T : Txt mg) (cAA : Ca P w K mg base 6 "_law_all" ["_law_opus"] (spAll 5)) : FnOk P w K mg base CX0 7 f fd ["_law_opus", "_law_title", "_law_pairs"] spOwn := by
  refine D.fn.ok scOwn (fun vs H Q E h => ?_) (fun cdv A outer s H vs Q E hr h => ?_)
  · obtain ⟨v, nv, L, ps, w, m, es, rfl, wk, hd, hl, an, nvm, am, eL, pr, ge, l20, q⟩ := h
    rfl
  · obtain ⟨v, nv, L, ps, w, m, es, rfl, wk, hd, hl, an, nvm, am, eL, pr, ge, l20, q⟩ := h
    refine ⟨_, (pss_cons (ps_set (i := 3) scOwn.nd rfl (.inr rfl) (pe_lst (pa_cons (pv 1) pa_nil)))
      (pss_cons (ps_for PassesOwn.never rfl (pi_range1 (by rfl) T.range (pa_cons (pe_callB call_len_seq (by rfl) T.len PySem.boot_len (pa_cons (pv 2) pa_nil)) pa_nil)) (pg_name (i := 4) scOwn.nd rfl (.inl rfl)) (pss_one (ps_for PassesOwn.never rfl (pi_list (pv 2)) (pg_tup (by rfl) (pgs_cons (pg_name (i := 5) scOwn.nd rfl (.inl rfl)) (pgs_cons (pg_name (i := 6) scOwn.nd rfl (.inl rfl)) pgs_nil))) (pss_one (ps_if (pt_cmpR op_ne (pe_cmpR (op_inD (r65 hr)) (pv 5) (pv 3) (by rfl)) (pe_cmpR (op_inD (r65 hr)) (pv 6) (pv 3) (by rfl)) (nomark _)) (pss_one (ps_expr (pe_bm PySem.F.plainAttrs_list PySem.F.slot_list_extend PySem.F.type_list_extend mt_extend (pv 3) (pa_cons (pe_lc (own := [("_law_name", 7)]) (g := gName 7) (tt := tTest (tOp (rNotInD K) (tVar 7) (tVar 3))) (by rfl) scOwn.nd (pi_tup (pe_tup (pa_cons (pv 5) (pa_cons (pv 6) pa_nil)))) (blkOk_by (own := [("_law_name", 7)]) (N := ["_law_opus", "_law_title", "_law_pairs", "_law_found", "_law_turn", "_law_one", "_law_other", "_law_name"]) (sc := defScope sOwn) (by decide +kernel)) (fun _ _ _ _ _ => pg_name (i := 7) scOwn.nd rfl (.inl rfl)) (fun _ _ _ _ _ => (pts_one (pt_cmpR (op_notInD (r65 hr)) (pv 7) (pv 3) (by rfl)))) (fun _ _ _ _ _ => pv 7)) pa_nil)))) pss_nil)))))
      (pss_cons (ps_for PassesOwn.never rfl (pi_list (pe_ca cAA hr (by decide) (by rfl) (pa_cons (pv 0) pa_nil))) (pg_name (i := 7) scOwn.nd rfl (.inl rfl)) (pss_one (ps_if (pt_cmpR (op_inD (r65 hr)) (pv 7) (pv 3) (by rfl)) (pss_one (ps_ret (pv 7))) pss_nil)))
      (pss_one (ps_ret (pv 1)))))), ?_⟩
    refine ⟨_, rfl, (by show 1 ≤ sizeLine; decide), fun F nF => ?_⟩
    have sF := same_upd nF (o := .lst [nv])
    have eF : (L2.upd H F (.lst [nv])) F = some (.lst [nv]) := upd_same
    generalize L2.upd H F (.lst [nv]) = H1 at sF eF ⊢
    have pl := PrL.len pr
    have nn : ∀ p ∈ es, An p.1 ∧ An p.2 := fun p hp => ⟨ge _ (Xnp.mem_nodes.mpr ⟨p.2, .inl hp⟩), ge _ (Xnp.mem_nodes.mpr ⟨p.1, .inr hp⟩)⟩
    have cg : ∀ {x}, Xnp.Rch es m x → An x := fun {x} r => by
      cases r with
      | refl => exact am
      | step _ a => exact ge _ (Xnp.mem_nodes.mpr ⟨_, a.symm⟩)
    refine ⟨_, rfl, L, ps, rfl, .inl (SqL.of (sF _ _ eL)), _, rfl, by omega, by omega, for_range (lo := 0) (fun t σ Hx => ∃ (xs : List V) (fs : List Nm) (c4 c5 c6 : Option V), σ = [some v, some nv, some (.ref L), some (.ref F), c4, c5, c6, none] ∧ Hx F = some (.lst xs) ∧ NmL Hx xs fs ∧ m ∈ fs ∧ (∀ x ∈ fs, Xnp.Rch es m x) ∧ fs.length ≤ 1 + 100 * t ∧ (Cld es fs ∨ t ≤ cB es fs) ∧ L2.Same H Hx) ?_ ?_ ?_⟩
    · exact ⟨[nv], [m], none, none, none, rfl, eF, .cons (nvm.tp (tp_same sF)) .nil, List.mem_singleton.mpr rfl, (fun x hx => by rw [List.mem_singleton.mp hx]; exact .refl m), by show 1 ≤ 1 + 100 * 0; omega, .inr (Nat.zero_le _), sF⟩
    · rintro t σ Hx ht ⟨xs0, fs0, c4, c5, c6, rfl, eF0, nl0, mm0, rc0, ln0, dd0, s0⟩
      have t20 : t < 20 := by omega
      refine ⟨_, rfl, L, rfl, ⟨_, SqL.of (s0 _ _ eL)⟩, for_list (K := K) (a := L) (xs := ps) (fun i σ Hy => ∃ (xs : List V) (fs : List Nm) (c5 c6 : Option V), σ = [some v, some nv, some (.ref L), some (.ref F), some (.int (0 + (t : Int))), c5, c6, none] ∧ Hy F = some (.lst xs) ∧ NmL Hy xs fs ∧ m ∈ fs ∧ (∀ x ∈ fs, Xnp.Rch es m x) ∧ fs.length ≤ 1 + 100 * t + 2 * i ∧ ((fs = fs0 ∧ ∀ p ∈ es.take i, (p.1 ∈ fs0 ↔ p.2 ∈ fs0)) ∨ t + 1 ≤ cB es fs) ∧ L2.Same H Hy) ?_ ?_ ?_ ?_⟩
      · exact ⟨xs0, fs0, c5, c6, rfl, eF0, nl0, mm0, rc0, by omega, .inl ⟨rfl, fun p hp => by cases hp⟩, s0⟩
      · rintro i σ Hy _ ⟨xs, fs, c5, c6, rfl, _, _, _, _, _, _, sy⟩
        exact SqL.of (sy _ _ eL)
      · rintro i x σ Hy hx ⟨xs, fs, c5, c6, rfl, eFy, nl, mm, rc, ln, dd, sy⟩
        obtain ⟨tt, va, vb, p, rfl, ep, ett, na, nb⟩ := PrL.get pr hx
        have il : i < es.length := (List.getElem?_eq_some_iff.mp ep).1
        have mp := List.mem_of_getElem? ep
        have ey := sy _ _ ett
        have na' := na.tp (tp_same sy)
        have nb' := nb.tp (tp_same sy)
        have ga := (nn p mp).1
        have gb := (nn p mp).2
        refine ⟨tt, _, rfl, SqT.of ey, rfl, _, _, rfl, _, _, rfl, rfl, ?_⟩
        obtain ⟨dl, dc, dp3⟩ := nms_dp xs fs nl (fun x hx => cg (rc x hx))
        refine ⟨_, rfl, _, rfl, nD p.1, _, nm_dp na', .lst (SqL.of eFy) dl, shaped_nm ga, N44.shaped_list dc dp3, _, rfl, _, rfl, nD p.2, _, nm_dp nb', .lst (SqL.of eFy) dl, shaped_nm gb, N44.shaped_list dc dp3, rfl, _, rfl, ?_⟩
        rw [any_eqv, any_eqv]
        have tk : es.take (i + 1) = es.take i ++ [p] := by rw [List.take_add_one, ep]; rfl
        by_cases c : (p.1 ∈ fs ↔ p.2 ∈ fs)
        · have e0 : (!decide (V.bl (decide (p.1 ∈ fs)) = V.bl (decide (p.2 ∈ fs)))) = false := by
            have e1 : decide (p.1 ∈ fs) = decide (p.2 ∈ fs) := decide_eq_decide.mpr c
            rw [e1]
            simp
          rw [e0]
          refine iteF ⟨xs, fs, _, _, rfl, eFy, nl, mm, rc, by omega, dd.imp (fun z => ⟨z.1, fun q hq => ?_⟩) id, sy⟩
          rw [tk] at hq
          rcases List.mem_append.mp hq with hq | hq
          · exact z.2 q hq
          · rw [List.mem_singleton.mp hq, ← z.1]
            exact c
        · have e0 : (!decide (V.bl (decide (p.1 ∈ fs)) = V.bl (decide (p.2 ∈ fs)))) = true := by
            rw [Bool.not_eq_true', decide_eq_false_iff_not]
            intro z
            injection z with z
            exact c (decide_eq_decide.mp z)
          rw [e0]
          refine iteT ?_
          refine ⟨_, rfl, .inl ⟨rfl, _, SqL.of eFy⟩, _, rfl, _, rfl, (by show 2 ≤ sizeLine; decide), fun tu ntu => ?_⟩
          have stu := same_upd ntu (o := .tup [va, vb])
          have etu : (L2.upd Hy tu (.tup [va, vb])) tu = some (.tup [va, vb]) := upd_same
          generalize L2.upd Hy tu (.tup [va, vb]) = Hz at stu etu ⊢
          refine ⟨tu, rfl, ⟨_, SqT.of etu⟩, fun D nD' => ?_⟩
          have sD := same_upd nD' (o := .lst [])
          have eFz := stu _ _ eFy
          have nlz := nl.tp (tp_same stu)
          have naz := na'.tp (tp_same stu)
          have nbz := nb'.tp (tp_same stu)
          have turn : ∀ (Hw : Hp) (vx : V) (x : Nm), L2.Same Hz Hw → NmV Hz vx x → An x → ∃ d ds, Dp K Hw vx d ∧ Dp K Hw (.ref F) (.list ds) ∧ SeqAt.shaped d = true ∧ SeqAt.shaped (.list ds) = true ∧ (!ds.any fun z => PyData.eqv z d) = !decide (x ∈ fs) := fun Hw vx x sw nx gx => by
            obtain ⟨dl2, dc2, dd2⟩ := nms_dp xs fs (nlz.tp (tp_same sw)) (fun x hx => cg (rc x hx))
            exact ⟨nD x, _, nm_dp (nx.tp (tp_same sw)), .lst (SqL.of (sw _ _ eFz)) dl2, shaped_nm gx, N44.shaped_list dc2 dd2, by rw [any_eqv]⟩
          have pick : ∀ (i' : Nat) (x : V), ([va, vb] : List V)[i']? = some x → ∃ y : Nm, NmV Hz x y ∧ An y ∧ ([p.1, p.2] : List Nm)[i']? = some y := fun i' x hx => by
            rcases i' with _ | _ | n
            · cases hx; exact ⟨p.1, naz, ga, rfl⟩
            · cases hx; exact ⟨p.2, nbz, gb, rfl⟩
            · simp at hx
          refine lc_tup (K := K) (a := tu) (xs := [va, vb]) (fun i' Hw => L2.Same Hz Hw ∧ ∃ ys, Hw D = some (.lst ys) ∧ NmL Hw ys (([p.1, p.2].take i').filter fun x => !decide (x ∈ fs)) ∧ ys.length ≤ i') ⟨sD, [], upd_same, .nil, Nat.le_refl _⟩ (fun i' Hw _ z => SqT.of (z.1 _ _ etu)) ?_ ?_
          · rintro i' x Hw hx ⟨sw, ys, eD, nly, ly⟩
            obtain ⟨y, ny, gy, ey2⟩ := pick i' x hx
            obtain ⟨d, ds, q1, q2, q3, q4, q5⟩ := turn Hw x y sw ny gy
            refine ⟨rfl, ?_⟩
            refine ⟨_, rfl, _, rfl, d, ds, q1, q2, q3, q4, _, rfl, ?_⟩
            rw [q5]
            have i2 : i' < 2 := (List.getElem?_eq_some_iff.mp hx).1
            have tk2 : ([p.1, p.2].take (i' + 1)) = [p.1, p.2].take i' ++ [y] := by rw [List.take_add_one, ey2]; rfl
            cases o : decide (y ∈ fs) with
            | true =>
              refine iteF ⟨sw, ys, eD, ?_, by omega⟩
              rw [tk2, List.filter_append, List.filter_cons, List.filter_nil, o]
              simpa using nly
            | false =>
              refine iteT ⟨_, rfl, ys, eD, Nat.lt_of_le_of_lt (show ys.length ≤ 10 by omega) (by decide), fun b u e => ?_, ys ++ [x], upd_same, ?_, by rw [List.length_append]; show ys.length + 1 ≤ i' + 1; omega⟩
              · rw [upd_ne (ne_of_none e nD')]
                exact sw _ _ e
              · have up : Tp Hw (L2.upd Hw D (.lst (ys ++ [x]))) := tp_upd fun us z => by rw [eD] at z; cases z
                rw [tk2, List.filter_append, List.filter_cons, List.filter_nil, o]
                exact (nly.tp up).snoc ((ny.tp (tp_same sw)).tp up)
          · rintro Hw ⟨sw, ys, eD, nly, ly⟩
            have nly : NmL Hw ys ([p.1, p.2].filter fun x => !decide (x ∈ fs)) := nly
            have ly : ys.length ≤ 2 := ly
            have eFw := sw _ _ eFz
            have nlw := nlz.tp (tp_same sw)
            refine ⟨F, D, xs, ys, rfl, rfl, eFw, eD, ?_, ?_⟩
            · rw [nl.len]
              exact Nat.le_trans (show _ ≤ 5000 by omega) (by decide)
            have up : Tp Hw (L2.upd Hw F (.lst (xs ++ ys))) := tp_upd fun us z => by rw [eFw] at z; cases z
            have sub : ∀ x ∈ fs, x ∈ fs ++ ([p.1, p.2].filter fun x => !decide (x ∈ fs)) := fun x hx => List.mem_append_left _ hx
            have both : p.1 ∈ fs ++ ([p.1, p.2].filter fun x => !decide (x ∈ fs)) ∧ p.2 ∈ fs ++ ([p.1, p.2].filter fun x => !decide (x ∈ fs)) := by
              have one : ∀ x ∈ [p.1, p.2], x ∈ fs ++ ([p.1, p.2].filter fun x => !decide (x ∈ fs)) := fun x hx => by
                by_cases o : x ∈ fs
                · exact List.mem_append_left _ o
                · exact List.mem_append_right _ (List.mem_filter.mpr ⟨hx, by simpa using o⟩)
              exact ⟨one _ (by simp), one _ (by simp)⟩
            have notboth : ¬ (p.1 ∈ fs ∧ p.2 ∈ fs) := fun z => c ⟨fun _ => z.2, fun _ => z.1⟩
            refine ⟨xs ++ ys, fs ++ ([p.1, p.2].filter fun x => !decide (x ∈ fs)), _, _, rfl, upd_same, (nlw.tp up).app (nly.tp up), sub _ mm, fun x hx => ?_, ?_, .inr ?_, fun b u e => ?_⟩
            · rcases List.mem_append.mp hx with hx | hx
              · exact rc x hx
              · have hx := (List.mem_filter.mp hx).1
                have side : p.1 ∈ fs ∨ p.2 ∈ fs := by
                  by_cases o : p.1 ∈ fs
                  · exact .inl o
                  · by_cases o2 : p.2 ∈ fs
                    · exact .inr o2
                    · exact absurd ⟨fun z => absurd z o, fun z => absurd z o2⟩ c
                simp only [List.mem_cons, List.not_mem_nil, or_false] at hx
                rcases side with o | o
                · have r1 := rc _ o
                  rcases hx with rfl | rfl
                  · exact r1
                  · exact r1.step (.inl mp)
                · have r2 := rc _ o
                  rcases hx with rfl | rfl
                  · exact r2.step (.inr mp)
                  · exact r2
            · rw [List.length_append]
              have := nly.len
              omega
            · rcases dd with ⟨z, _⟩ | z
              · have lt := cB_lt (es := es) sub mp both notboth
                rcases dd0 with cl | ct
                · exact absurd (by rw [z]; exact cl p mp) c
                · rw [z] at lt ⊢
                  omega
              · exact Nat.le_trans z (cB_mono sub)
            · rw [upd_ne (ne_of_none e nF)]
              exact sw _ _ (stu _ _ (sy _ _ e))
      · rintro σ Hy ⟨xs, fs, c5, c6, rfl, eFy, nl, mm, rc, ln, dd, sy⟩
        refine ⟨xs, fs, _, _, _, rfl, eFy, nl, mm, rc, by omega, ?_, sy⟩
        rcases dd with ⟨z, ag⟩ | z
        · refine .inl fun p hp => ?_
          rw [z]
          exact ag p (by rw [List.take_of_length_le (by omega)]; exact hp)
        · exact .inr z
    rintro σ H2 ⟨xs, fs, c4, c5, c6, rfl, eF2, nl, mm, rc, ln, dd, s2⟩
    have cl : Cld es fs := by
      rcases dd with z | z
      · exact z
      · have z : (((ps.length : Nat) : Int)).toNat ≤ cB es fs := z
        have a := cB_all (es := es) (F := fs) (by omega)
        exact fun p hp => ⟨fun _ => (a p hp).2, fun _ => (a p hp).1⟩
    have mem : ∀ n, n ∈ fs ↔ N44.oneB es n m = true := fun n => by
      unfold N44.oneB
      constructor
      · intro h
        exact @decide_eq_true _ (Classical.propDecidable _) (rc n h).symm
      · intro h
        exact cl.rch (@of_decide_eq_true _ (Classical.propDecidable _) h).symm mm
    refine ⟨_, rfl, v, w, rfl, wk.tp (tp_same s2), by show w.dp ≤ 4 + 1; omega, by omega, fun A as H3 eA nA nA0 s3 => ?_⟩
    refine ⟨A, rfl, ⟨_, SqL.of eA⟩, for_list (K := K) (a := A) (xs := as) (fun i σ Hy => ∃ c7, σ = [some v, some nv, some (.ref L), some (.ref F), c4, c5, c6, c7] ∧ Hy = H3 ∧ ∀ n ∈ w.nms.take i, N44.oneB es n m = false) ?_ ?_ ?_ ?_⟩
    · exact ⟨none, rfl, rfl, fun n hn => by cases hn⟩
    · rintro i σ Hy _ ⟨c7, rfl, rfl, _⟩
      exact SqL.of eA
    · rintro i x σ Hy hx ⟨c7, rfl, rfl, no⟩
      obtain ⟨n, en, nvx⟩ := nA.get hx
      have gn := an n (List.mem_of_getElem? en)
      obtain ⟨dl, dc, dp3⟩ := nms_dp xs fs (nl.tp (tp_same s3)) (fun x hx => cg (rc x hx))
      refine ⟨_, rfl, _, rfl, nD n, _, nm_dp nvx, .lst (SqL.of (s3 _ _ eF2)) dl, shaped_nm gn, N44.shaped_list dc dp3, _, rfl, ?_⟩
      rw [any_eqv]
      by_cases o : n ∈ fs
      · rw [decide_eq_true o]
        refine iteT ⟨_, rfl, q _ _ (s2.trans s3) ?_⟩
        have fd : w.nms.find? (fun n => N44.oneB es n m) = some n := by
          rw [List.find?_eq_some_iff_getElem]
          obtain ⟨lt, e1⟩ := List.getElem?_eq_some_iff.mp en
          refine ⟨(mem n).mp o, i, lt, e1, fun j hj => ?_⟩
          have := no (w.nms[j]'(by omega)) (List.mem_take_iff_getElem.mpr ⟨j, by omega, rfl⟩)
          simp [this]
        unfold ownN
        rw [fd]
        exact nvx
      · rw [decide_eq_false o]
        refine iteF ⟨_, rfl, rfl, fun n2 h2 => ?_⟩
        rw [List.take_add_one, en] at h2
        rcases List.mem_append.mp h2 with z | z
        · exact no n2 z
        · rw [List.mem_singleton.mp z]
          cases oo : N44.oneB es n m with
          | false => rfl
          | true => exact absurd ((mem n).mpr oo) o
    · rintro σ Hy ⟨c7, rfl, rfl, no⟩
      have fd : w.nms.find? (fun n => N44.oneB es n m) = none := by
        rw [List.find?_eq_none]
        intro n hn
        have := no n (by rw [List.take_of_length_le (by have := nA.len; omega)]; exact hn)
        simp [this]
      refine ⟨_, rfl, q _ _ (s2.trans s3) ?_⟩
      unfold ownN
      rw [fd]
      exact nvm.tp (tp_same (s2.trans s3))
end
end K44
set_option Elab.async false
set_option linter.all false
set_option maxRecDepth 100000
set_option maxHeartbeats 4000000
set_option pp.maxSteps 400
set_option pp.deepTerms false
namespace K44
open PySem PySem.Spec PyProof.Rows L2
open Xk Az W37
section
variable {P : Program} {w : World} {K : PySem.W.Frag} {mg : Str → Option Value} {base : Heap}
def gA {α : Type} (us _ds ws : List α) : List α := us ++ ws
structure Mo_ (P : Program) (w : World) (K : PySem.W.Frag) (mg : Str → Option Value) (base : Heap) (C : Addr) (pB : Addr) (f : Addr) (fd : FuncData) : Prop where
  ok : FnOk P w K mg base CX0 9 f fd ["work", "titles", "names"] (spMO K C pB)
  mgf : mg "most_in_order" = some (.ref f)
  kp : PySem.W.keepIn K (.ref f) = true
  b0 : Binds K fd ["work", "titles", "names"] []
  b1 : ∃ ds, Vals [.non] ds ∧ Binds K fd ["work", "titles", "names"] ds
  k0 : ∃ its, KBn K fd ["work", "titles", "names"] 0 ["work", "titles", "names"] (fun us ws => gA us its ws) (fun vs zs => gA vs [.non] zs)
theorem mo_mk {C f : Addr} {pB : Addr} {fd : FuncData} (F : FunD K "most_in_order" "most_in_order" (defArgs sMostInOrder) (defBody sMostInOrder) (defScope sMostInOrder) [.non] [] f fd) (mgf : mg "most_in_order" = some (.ref f))
    (ok : FnOk P w K mg base CX0 9 f fd ["work", "titles", "names"] (spMO K C pB)) : Mo_ P w K mg base C pB f fd := by
  refine ⟨ok, mgf, F.kp, ?_, F.binds1 (ps := ["work", "titles", "names"]) 2 0 (by simp) rfl fun T kV doc pm an cdv ct us its h1 h2 => by
    match us, its, h1, h2 with
    | [_, _], [_], _, _ => exact ⟨_, rfl, rfl⟩, ?_⟩
  · obtain ⟨ds, r, b⟩ := F.binds1 (ps := ["work", "titles", "names"]) 3 1 (by simp) rfl fun T kV doc pm an cdv ct us its h1 h2 => by
      match us, its, h1, h2 with
      | [_, _, _], [_], _, _ => exact ⟨_, rfl, rfl⟩
    cases r
    exact b
  · exact F.kbindsD (ps := ["work", "titles", "names"]) 0 ["work", "titles", "names"] (fun us ds ws => gA us ds ws) (by simp) (fun r _ t => Vals.append r t) fun T kV doc pm an cdv ct us its ws h1 h2 h3 => by
      match us, its, ws, h1, h2, h3 with
      | [], [_], [_, _, _], _, _, _ => exact ⟨_, rfl, rfl⟩
structure Ht_ (P : Program) (w : World) (K : PySem.W.Frag) (mg : Str → Option Value) (base : Heap) (C : Addr) (f : Addr) (fd : FuncData) : Prop where
  ok : FnOk P w K mg base CX0 9 f fd ["work", "titles", "names"] (spHt K C)
  mgf : mg "heights" = some (.ref f)
  kp : PySem.W.keepIn K (.ref f) = true
  b0 : Binds K fd ["work", "titles", "names"] []
  b1 : ∃ ds, Vals [.non] ds ∧ Binds K fd ["work", "titles", "names"] ds
  k0 : ∃ its, KBn K fd ["work", "titles", "names"] 2 ["names"] (fun us ws => gA us its ws) (fun vs zs => gA vs [.non] zs)
theorem ht_mk {C f : Addr} {fd : FuncData} (F : FunD K "heights" "heights" (defArgs sHeights) (defBody sHeights) (defScope sHeights) [.non] [] f fd) (mgf : mg "heights" = some (.ref f))
    (ok : FnOk P w K mg base CX0 9 f fd ["work", "titles", "names"] (spHt K C)) : Ht_ P w K mg base C f fd := by
  refine ⟨ok, mgf, F.kp, ?_, F.binds1 (ps := ["work", "titles", "names"]) 2 0 (by simp) rfl fun T kV doc pm an cdv ct us its h1 h2 => by
    match us, its, h1, h2 with
    | [_, _], [_], _, _ => exact ⟨_, rfl, rfl⟩, ?_⟩
  · obtain ⟨ds, r, b⟩ := F.binds1 (ps := ["work", "titles", "names"]) 3 1 (by simp) rfl fun T kV doc pm an cdv ct us its h1 h2 => by
      match us, its, h1, h2 with
      | [_, _, _], [_], _, _ => exact ⟨_, rfl, rfl⟩
    cases r
    exact b
  · exact F.kbindsD (ps := ["work", "titles", "names"]) 2 ["names"] (fun us ds ws => gA us ds ws) (by simp) (fun r _ t => Vals.append r t) fun T kV doc pm an cdv ct us its ws h1 h2 h3 => by
      match us, its, ws, h1, h2, h3 with
      | [_, _], [_], [_], _, _, _ => exact ⟨_, rfl, rfl⟩
structure Sm_ (P : Program) (w : World) (K : PySem.W.Frag) (mg : Str → Option Value) (base : Heap) (C : Addr) (f : Addr) (fd : FuncData) : Prop where
  ok : FnOk P w K mg base CX0 9 f fd ["work", "titles", "many", "thing", "names"] (spSM K C)
  mgf : mg "shows_most" = some (.ref f)
  kp : PySem.W.keepIn K (.ref f) = true
  b0 : Binds K fd ["work", "titles", "many", "thing", "names"] []
  b1 : ∃ ds, Vals [.non] ds ∧ Binds K fd ["work", "titles", "many", "thing", "names"] ds
  k0 : ∃ its, KBn K fd ["work", "titles", "many", "thing", "names"] 4 ["names"] (fun us ws => gA us its ws) (fun vs zs => gA vs [.non] zs)
theorem sm_mk {C f : Addr} {fd : FuncData} (F : FunD K "shows_most" "shows_most" (defArgs sShowsMost) (defBody sShowsMost) (defScope sShowsMost) [.non] [] f fd) (mgf : mg "shows_most" = some (.ref f))
    (ok : FnOk P w K mg base CX0 9 f fd ["work", "titles", "many", "thing", "names"] (spSM K C)) : Sm_ P w K mg base C f fd := by
  refine ⟨ok, mgf, F.kp, ?_, F.binds1 (ps := ["work", "titles", "many", "thing", "names"]) 4 0 (by simp) rfl fun T kV doc pm an cdv ct us its h1 h2 => by
    match us, its, h1, h2 with
    | [_, _, _, _], [_], _, _ => exact ⟨_, rfl, rfl⟩, ?_⟩
  · obtain ⟨ds, r, b⟩ := F.binds1 (ps := ["work", "titles", "many", "thing", "names"]) 5 1 (by simp) rfl fun T kV doc pm an cdv ct us its h1 h2 => by
      match us, its, h1, h2 with
      | [_, _, _, _, _], [_], _, _ => exact ⟨_, rfl, rfl⟩
    cases r
    exact b
  · exact F.kbindsD (ps := ["work", "titles", "many", "thing", "names"]) 4 ["names"] (fun us ds ws => gA us ds ws) (by simp) (fun r _ t => Vals.append r t) fun T kV doc pm an cdv ct us its ws h1 h2 h3 => by
      match us, its, ws, h1, h2, h3 with
      | [_, _, _, _], [_], [_], _, _, _ => exact ⟨_, rfl, rfl⟩
/-! how large, how long -/
theorem vl_bd : ∀ {l : List S2}, (∀ s ∈ l, s.1 < s.2 ∧ s.2 - s.1 ≤ 100) → 0 ≤ vl l ∧ vl l ≤ 100 * ((l.length : Nat) : Int)
  | [], _ => ⟨Int.le_refl _, by simp [vl]⟩
  | s :: r, h => by
    obtain ⟨a, b⟩ := vl_bd (l := r) fun t ht => h t (List.mem_cons_of_mem _ ht)
    have := h s List.mem_cons_self
    show 0 ≤ (s.2 - s.1) + vl r ∧ (s.2 - s.1) + vl r ≤ _
    rw [List.length_cons]
    push_cast
    omega
theorem htl_bd {S : Spl} (hS : ∀ s, some s ∈ S → s.1 < s.2 ∧ s.2 - s.1 ≤ 100) : ∀ k, ∀ x ∈ htl S k, 0 ≤ x ∧ x ≤ 100 * ((k : Nat) : Int)
  | 0, x, h => by rw [htl] at h; cases h
  | k + 1, x, h => by
    have ih := htl_bd hS k
    rw [htl] at h
    rcases List.mem_append.mp h with z | z
    · have := ih x z
      push_cast
      omega
    · have z := List.mem_singleton.mp z
      rw [z]
      split
      · rename_i s e
        have hs := hS s (List.mem_of_getElem? e)
        have hm : 0 ≤ mx0 (below S (htl S k) s k) ∧ mx0 (below S (htl S k) s k) ≤ 100 * ((k : Nat) : Int) := by
          rcases mx0_mem (below S (htl S k) s k) with ⟨_, y⟩ | y
          · rw [y]; omega
          · obtain ⟨a, r, _, _, _, e2⟩ := mem_below.mp y
            exact ih _ (List.mem_of_getElem? e2)
        show 0 ≤ lh S (htl S k) s k ∧ lh S (htl S k) s k ≤ _
        unfold lh
        push_cast
        omega
      · exact ⟨Int.le_refl (0 : Int), by omega⟩
theorem ints_nice : ∀ {ns : List Int}, (∀ n ∈ ns, 0 ≤ n ∧ n < 10 ^ 9) → PyData.showableAll (ns.map PyData.int) = true ∧ PyData.depthAll (ns.map PyData.int) ≤ 1 ∧ piled (PyData.shownAll (ns.map PyData.int)) ≤ 12 * ns.length
  | [], _ => ⟨by simp [PyData.showableAll], by simp [PyData.depthAll], by simp [PyData.shownAll, piled_nil]⟩
  | n :: r, h => by
    obtain ⟨a, b, c⟩ := ints_nice (ns := r) fun z hz => h z (List.mem_cons_of_mem _ hz)
    obtain ⟨n0, n1⟩ := h n List.mem_cons_self
    have w : Nice (.int n) 0 10 := nice_int (by
      have : n.natAbs < 2 ^ 40 := by
        have : (10 : Int) ^ 9 < 2 ^ 40 := by decide
        omega
      exact Nat.lt_of_lt_of_le (PySem.Flt.log2_lt_of (by decide) this) (by decide)) (Nat.le_trans (toString_length_le n0 (k := 9) (by decide) n1) (by decide))
    refine ⟨by simp [PyData.showableAll, w.sh, a], ?_, ?_⟩
    · simp only [List.map_cons, PyData.depthAll]
      have := w.dp
      omega
    · simp only [List.map_cons, PyData.shownAll, piled_cons, List.length_cons]
      have := w.sz
      omega
end
end K44
set_option Elab.async false
set_option linter.all false
set_option maxRecDepth 100000
set_option maxHeartbeats 4000000
/-! tuple * int from nought on; list * int whose list is no table of modules -/
namespace Xrp
open PySem PySem.Spec PyProof.Rows L2
theorem mul0 (l : Addr) (items : Array Value) (n : Nat) (dd : Option Addr) (sl : Array (Option Value)) (u : Tok) (ne : items.isEmpty = false) :
    Meets (Builtin.«tuple.__mul__» ⟨[.ref l, .int 0 u], []⟩) (fun _ R s =>
      s.heap.get? l = some { cls := .type "tuple", dict := dd, data := .seq items n, slots := sl } ∧
      R (.ok (.ret (Value.ref s.heap.objs.size))) { s with heap := s.heap.push { cls := Value.type "tuple", data := Data.seq #[] }, toks := s.toks }) :=
  .of_wp fun prog w A R s h => by
    obtain ⟨hp, g, d, tk, os⟩ := s
    obtain ⟨hl, h⟩ := h
    have f1 := AutoSeq1.idx_int
    wp_walk using wpAny_loadPart' hl
    exact ⟨_, rfl, h⟩
theorem mul1 (l : Addr) (items : Array Value) (n : Nat) (dd : Option Addr) (sl : Array (Option Value)) (u : Tok) :
    Meets (Builtin.«tuple.__mul__» ⟨[.ref l, .int 1 u], []⟩) (fun _ R s =>
      s.heap.get? l = some { cls := .type "tuple", dict := dd, data := .seq items n, slots := sl } ∧ R (.ok (.ret (.ref l))) s) :=
  .of_wp fun prog w A R s h => by
    obtain ⟨hp, g, d, tk, os⟩ := s
    obtain ⟨hl, h⟩ := h
    have f1 := AutoSeq1.idx_int
    have c1 : (items.isEmpty || ((1 : Int) == 1)) = true := by simp
    wp_walk using wpAny_loadPart' hl
    repeat (first
      | (refine wpAny_ite_true (decide_eq_true c1) ?_; wp_walk using wpAny_loadPart' hl)
      | (refine wpAny_ite_true c1 ?_; wp_walk using wpAny_loadPart' hl))
    exact ⟨_, rfl, h⟩
section
variable {X : Cx}
def rRepU (K : PySem.W.Frag) : R2 := fun x y H Q => ∃ l k xs, x = .ref l ∧ y = .int k ∧ H l = some (.tup xs) ∧ xs ≠ [] ∧ 0 ≤ k ∧ k ≤ 1000 ∧ xs.length ≤ 1000 ∧ ∀ p H', L2.Same H H' → H' p = some (.tup (List.replicate k.toNat xs).flatten) → Q (.ref p) H'
theorem op_repU : OpR X (binaryOp .Mult) (rRepU X.K) := by
  intro pins s σ H x y v u Q I rx ry h
  obtain ⟨l, k, xs, rfl, rfl, hT, hne, h1, h2, hz, q⟩ := h
  rcases Int.lt_or_le k 2 with c | c
  · cases rx
    obtain ⟨t, rfl⟩ := ry
    obtain ⟨its, r, ⟨⟨cls, dd, data, sl⟩, ho, hc, n, hd⟩, hs⟩ := I.tuple (SqT.of hT)
    simp only at hc hd
    subst hc hd
    have hi : its.toArray.isEmpty = false := by
      cases its with
      | nil =>
        cases r
        exact absurd rfl hne
      | cons a b => rfl
    have k01 : k = 0 ∨ k = 1 := by omega
    rcases k01 with rfl | rfl
    · refine wpAny_binaryOp_repeat_ref (T := "tuple") (U := "int") (by decide) ⟨_, ho, rfl⟩
        (fun s' => typeIs_int s' 0 t) noFill_tuple_mul F.fills_int_mul F.slot_int_rmul repeat_tuple
        F.slot_int_index.lookup (call_meets F.slot_int_rmul (typeIs_int s 0 t) F.entry_int_rmul
          (F.args_int_rmul_2 _ _) (int_rmul_tuple 0 t l its.toArray n dd sl) ⟨ho, rfl, ⟨_, ho, rfl⟩, ?_⟩)
      refine call_meets F.slot_tuple_mul ⟨_, ho, rfl⟩ F.entry_tuple_mul (F.args_tuple_mul_2 _ _) (mul0 l its.toArray n dd sl t hi) ⟨ho, ?_⟩
      have nw := I.hok.fresh (Nat.le_refl s.heap.objs.size)
      refine ⟨.ref s.heap.objs.size, _, I.laid (t' := s.toks) (o := .tup []) (fun b ob z => Heap.get?_push_of_some _ z) (Nat.le_refl _) ?_, rfl, q _ _ (fun b o z => by rw [upd_ne (ne_of_none z nw)]; exact z) upd_same⟩
      exact ⟨Nat.zero_le _, [], .nil, IsTup.new _ _⟩
    · refine wpAny_binaryOp_repeat_ref (T := "tuple") (U := "int") (by decide) ⟨_, ho, rfl⟩
        (fun s' => typeIs_int s' 1 t) noFill_tuple_mul F.fills_int_mul F.slot_int_rmul repeat_tuple
        F.slot_int_index.lookup (call_meets F.slot_int_rmul (typeIs_int s 1 t) F.entry_int_rmul
          (F.args_int_rmul_2 _ _) (int_rmul_tuple 1 t l its.toArray n dd sl) ⟨ho, rfl, ⟨_, ho, rfl⟩, ?_⟩)
      refine call_meets F.slot_tuple_mul ⟨_, ho, rfl⟩ F.entry_tuple_mul (F.args_tuple_mul_2 _ _) (mul1 l its.toArray n dd sl t) ⟨ho, ?_⟩
      exact ⟨.ref l, H, I, rfl, q l H (Same.refl H) (by rw [hT]; simp)⟩
  · exact op_repT pins s σ H _ _ v u Q I rx ry ⟨l, k, xs, rfl, rfl, SqT.of hT, hne, c, h2, hz, fun p np => q p _ (fun b o z => by rw [upd_ne (ne_of_none z np)]; exact z) upd_same⟩
def rRepZ : R2 := fun x y H Q => ∃ l k xs, x = .ref l ∧ y = .int k ∧ H l = some (.lst xs) ∧ 0 ≤ k ∧ k ≤ 1000 ∧ xs.length ≤ 1000 ∧ ∀ p, H p = none → p ≠ sysModules → Q (.ref p) (upd H p (.lst (List.replicate k.toNat xs).flatten))
theorem op_repZ : OpR X (binaryOp .Mult) rRepZ := by
  intro pins s σ H x y v u Q I rx ry h
  obtain ⟨l, k, xs, rfl, rfl, hL, h1, h2, hz, q⟩ := h
  have sz : xs.length * k.toNat ≤ sizeLine := Nat.le_trans (Nat.mul_le_mul hz (show k.toNat ≤ 1000 by omega)) (by decide)
  cases rx
  obtain ⟨t, rfl⟩ := ry
  obtain ⟨z, its, n, r, hl, e⟩ := I.lstM hL
  have w1 : its.toArray.size * k.toNat ≤ sizeLine := by rw [List.size_toArray, ← hl]; exact sz
  have w2 : ¬ its.toArray.size * k.toNat > (2 ^ 63 - 1) / 8 := fun y => by
    have : (sizeLine : Nat) ≤ (2 ^ 63 - 1) / 8 := by decide
    omega
  have w3 : ¬ (!Builtin.List.listFitsIndex k) = true := fun y => by
    rw [fitsIndex_both (by omega) (by omega)] at y
    cases y
  have w4 : ¬ Builtin.List.listTooLong (its.toArray.size * k.toNat) = true := fun y => by
    rw [notLongL w1] at y
    cases y
  have w5 : (List.replicate (if its.toArray.isEmpty = true then 0 else k.toNat) its.toArray).foldl (fun a b => a ++ b) #[] = (List.replicate k.toNat its).flatten.toArray := by
    cases its with
    | nil => simp
    | cons a r' =>
      rw [if_neg (by simp)]
      exact size_rep _ _
  refine wpAny_binaryOp_repeat_ref (T := "list") (U := "int") (by decide) ⟨_, e, rfl⟩
    (fun s' => typeIs_int s' k t) noFill_list_mul F.fills_int_mul F.slot_int_rmul repeat_list
    F.slot_int_index.lookup (call_meets F.slot_int_rmul (typeIs_int s k t) F.entry_int_rmul
      (F.args_int_rmul_2 _ _) (int___rmul___int_list k t l its.toArray n) ⟨e, rfl, ⟨_, e, rfl⟩, ?_⟩)
  refine call_meets F.slot_list_mul ⟨_, e, rfl⟩ F.entry_list_mul
    (F.args_list_mul_2 _ _) (AutoListH.list___mul___list_int_3 l its.toArray n k t w3 w2 w4) ⟨e, ?_⟩
  rw [w5]
  refine ⟨.ref _, _, I.lnew (t' := s.toks) (r.rep k.toNat) ?_, rfl, q _ I.fresh (Nat.ne_of_gt I.big)⟩
  rw [PyProof.Rows.lm_len_rep_flat, Nat.mul_comm]
  exact sz
end
end Xrp
set_option Elab.async false
set_option linter.all false
set_option maxRecDepth 100000
set_option maxHeartbeats 4000000
set_option pp.maxSteps 400
set_option pp.deepTerms false
/-! calls by names alone -/
namespace Xkw
open PySem PySem.Spec PyProof.Rows L2
section
variable {X : Cx} {CX : CXT} {k : Nat} {f : Addr} {fd : FuncData} {ps ks : List Str} {sp : Sp} {E : XK} {x : Str} {p pos : Pos} {kws : List Keyword} {tk : TA} {g : List Value → List Value → List Value} {gV : List V → List V → List V}
theorem pe_callN0 (F : FnOk X.prog X.w X.K X.mg X.base CX k f fd ps sp) (room : Room k X.A) (gl : Gl X x) (mgf : X.mg x = some (.ref f)) (kp : PySem.W.keepIn X.K (.ref f) = true) (kb : KBn X.K fd ps 0 ks g gV) (px : Passes CX X E) (pk : PK X kws tk)
    (hall : (backToKw pos (keywordEach kws X.env)).all (·.1.isSome) = true := by rfl) (hks : (backToKw pos (keywordEach kws X.env)).filterMap (·.1) = ks := by rfl) (hdb : (x == ("__debug__" : Str)) = false := by decide)
    (hpl : ((backTo pos (starEach [] X.env)).any (·.1) || (backToKw pos (keywordEach kws X.env)).any (·.1.isNone)) = false := by rfl) : PE X (.Call (.Name x p) [] kws pos) (tCallN 0 ks.length sp gV E tNil tk) := by
  refine ⟨fun pins s σ H Q I h => wpAny_Call_Name_kw (ld_glob I gl mgf ?_ hdb)⟩
  refine PySem.W.callWith_KW0 (h₀ := X.base) I.ok.mod.kin kp hall (thn (pk.run pos pins s σ H _ I h) fun ws s2 z => ?_) hpl
  obtain ⟨zs, H2, I2, rz, l1, l2, q2⟩ := z
  refine ⟨I2.kIn, ?_⟩
  rw [hks]
  exact run_fnN (us := []) (vs := []) F room kb px I2 .nil rz l1 l2 q2
end
/-- a def that may be called by names alone, in this order -/
structure Cw (P : Program) (w : World) (K : PySem.W.Frag) (mg : Str → Option Value) (base : Heap) (CX : CXT) (k : Nat) (x : Str) (ps ks : List Str) (gV : List V → List V → List V) (sp : Sp) : Prop where
  ex : ∃ (f : Addr) (fd : FuncData) (g : List Value → List Value → List Value), FnOk P w K mg base CX k f fd ps sp ∧ mg x = some (.ref f) ∧ PySem.W.keepIn K (.ref f) = true ∧ KBn K fd ps 0 ks g gV
section
variable {X : Cx} {CX : CXT} {k j : Nat} {x : Str} {ps ks : List Str} {sp : Sp} {p pos : Pos} {kws : List Keyword} {tk : TA} {gV : List V → List V → List V} {E : XK}
theorem pe_cw (c : Cw X.prog X.w X.K X.mg X.base CX k x ps ks gV sp) (hr : Room j X.A) (hk : k ≤ j) (gl : Gl X x) (px : Passes CX X E) (pk : PK X kws tk)
    (hall : (backToKw pos (keywordEach kws X.env)).all (·.1.isSome) = true := by rfl) (hks : (backToKw pos (keywordEach kws X.env)).filterMap (·.1) = ks := by rfl) (hdb : (x == ("__debug__" : Str)) = false := by decide)
    (hpl : ((backTo pos (starEach [] X.env)).any (·.1) || (backToKw pos (keywordEach kws X.env)).any (·.1.isNone)) = false := by rfl) : PE X (.Call (.Name x p) [] kws pos) (tCallN 0 ks.length sp gV E tNil tk) := by
  obtain ⟨f, fd, g, F, hm, kp, kb⟩ := c.ex
  exact pe_callN0 F (hr.mono hk) gl hm kp kb px pk hall hks hdb hpl
end
/-- one parameter -/
def g1 {α : Type} (us ws : List α) : List α := us ++ ws
end Xkw
set_option Elab.async false
set_option linter.all false
set_option maxRecDepth 100000
set_option maxHeartbeats 4000000
set_option pp.maxSteps 400
set_option pp.deepTerms false
namespace K44
open PySem PySem.Spec PyProof.Rows L2
open Xk Az W37
section
variable {P : Program} {w : World} {K : PySem.W.Frag} {mg : Str → Option Value} {base : Heap}
/-- what most_in_order tells, as data -/
def moD (m : Int) (is : List Nat) (lk : List Nat) : PyData := .tuple [.int m, .tuple ((toI is).map PyData.int), .tuple ((toI lk).map PyData.int)]
theorem dzI {H : Hp} (ns : List Int) : DzAll K H (ns.map V.int) (ns.map PyData.int) := dzAll_ints ns
theorem mo_dz {H : Hp} {t c k : Addr} {m : Int} {is lk : List Nat} (e1 : H t = some (.tup [.int m, .ref c, .ref k])) (e2 : H c = some (.tup ((toI is).map V.int))) (e3 : H k = some (.tup ((toI lk).map V.int))) : Dz K H (.ref t) (moD m is lk) :=
  .tup e1 (.cons (.int _) (.cons (.tup e2 (dzAll_ints _)) (.cons (.tup e3 (dzAll_ints _)) .nil)))
theorem tupI_nice {ns : List Int} (h : ∀ n ∈ ns, 0 ≤ n ∧ n < 10 ^ 9) (l : ns.length ≤ 110) : Nice (.tuple (ns.map PyData.int)) 2 1400 := by
  obtain ⟨a, b, c⟩ := ints_nice h
  refine ⟨by simp only [PyData.showable]; exact a, by simp only [PyData.depth]; omega, ?_⟩
  simp only [PyData.shown]
  have z := fmt_text (PyData.shownAll (ns.map PyData.int))
  omega
theorem mo_nice {m : Int} {is lk : List Nat} (m0 : 0 ≤ m) (m1 : m < 10 ^ 9) (h1 : ∀ i ∈ is, i < 1000) (l1 : is.length ≤ 110) (h2 : ∀ i ∈ lk, i < 1000) (l2 : lk.length ≤ 110) : Nice (moD m is lk) 4 4000 := by
  have cv : ∀ {l : List Nat}, (∀ i ∈ l, i < 1000) → ∀ n ∈ toI l, 0 ≤ n ∧ n < 10 ^ 9 := fun {l} h n hn => by
    obtain ⟨i, hi, rfl⟩ := List.mem_map.mp hn
    have := h i hi
    show 0 ≤ (i : Int) ∧ (i : Int) < 10 ^ 9
    have : (1000 : Int) < 10 ^ 9 := by decide
    omega
  have a := tupI_nice (cv h1) (by rw [List.length_map]; exact l1)
  have b := tupI_nice (cv h2) (by rw [List.length_map]; exact l2)
  obtain ⟨c1, c2, c3⟩ := ints_nice (ns := [m]) (fun n hn => by rw [List.mem_singleton.mp hn]; exact ⟨m0, m1⟩)
  have c1 : PyData.showable (.int m) = true := by
    simp only [List.map_cons, List.map_nil, PyData.showableAll, Bool.and_true] at c1
    exact c1
  have c3 : (PyData.int m).shown.length ≤ 12 := by
    simp only [List.map_cons, List.map_nil, PyData.shownAll, piled_cons, piled_nil, List.length_cons, List.length_nil] at c3
    omega
  unfold moD
  refine ⟨?_, ?_, ?_⟩
  · simp only [PyData.showable, PyData.showableAll, Bool.and_true, Bool.and_eq_true]
    exact ⟨c1, a.sh, b.sh⟩
  · simp only [PyData.depth, PyData.depthAll]
    have := a.dp
    have := b.dp
    simp only [PyData.depth] at *
    omega
  · simp only [PyData.shown, PyData.shownAll]
    have z := fmt_text [(PyData.int m).shown, (PyData.tuple ((toI is).map PyData.int)).shown, (PyData.tuple ((toI lk).map PyData.int)).shown]
    have := a.sz
    have := b.sz
    simp only [piled_cons, piled_nil, PyData.shown] at *
    omega
theorem Ora.ext {C : Addr} {H H' : Hp} {v : V} {g : Nm → Nm → Bool} (h : Ora C H v g) (s : LamX.ExtN H H') : Ora C H' v g := by
  cases h with
  | non => exact .non
  | book e lg lc lo gp gd =>
    refine .book (s _ _ e (fun ps z => by cases z)) lg lc lo ?_ gd
    obtain ⟨kv, e, al, no⟩ := gp
    refine ⟨kv, s _ _ e (fun ps z => by cases z), fun a ha => ?_, no⟩
    obtain ⟨t, ys, l, e1, e2, e3, c⟩ := al a ha
    exact ⟨t, ys, l, e1, s _ _ e2 (fun ps z => by cases z), e3.tp (exTp s), c⟩
noncomputable def spRg (C pB : Addr) : Sp := fun vs H Q _ => ∃ (v : V) (T L : Addr) (bv : V) (xs ps : List V) (w : W) (ts : List (Option Nm)) (es : List Pair), vs = [v, .ref T, bv, .ref L] ∧ Wk H v w ∧ w.dp ≤ 5 ∧ w.nms.length ≤ 100 ∧ (∀ m ∈ w.nms, An m) ∧ H T = some (.tup xs) ∧ Lp (TtV H) xs ts ∧ ts.length ≤ 7 ∧ (∀ m, some m ∈ ts → An m) ∧
  Ora C H bv (fun a b => N44.oneB es a b) ∧ H L = some (.lst ps) ∧ N44.PrL H ps es ∧ (∀ n ∈ Xnp.nodes es, An n) ∧ es.length ≤ 20 ∧ LamX.Tabs (Tb pB) H ∧ ∀ H', LamX.ExtN H H' → LamX.Tabs (Tb pB) H' → Q (.bl true) H'
theorem spans_same (es : List Pair) (w : W) (ts : List (Option Nm)) : ((ts.map (Option.map (ownN es w))).map fun t => t.bind (spG (fun a b => decide (a = b)) w)) = ts.map fun t => t.bind (spG (fun a b => N44.oneB es a b) w) := by
  rw [List.map_map]
  refine List.map_congr_left fun t _ => ?_
  cases t with
  | none => rfl
  | some m => exact own_span es w m
theorem own_in {es : List Pair} {w : W} {m : Nm} : ownN es w m = m ∨ ownN es w m ∈ w.nms := by
  unfold ownN
  cases e : w.nms.find? fun n => N44.oneB es n m with
  | none => exact .inl rfl
  | some n => exact .inr (List.mem_of_find?_eq_some e)
theorem ok_rg {f : Addr} {fd : FuncData} {C pB fMo fHt fSm : Addr} {fdMo fdHt fdSm : FuncData} (D : Df K mg "_law_right" ["_law_opus", "_law_heads", "_law_book", "_law_pairs"] sRight f fd) (T : Txt mg) (cOw : Ca P w K mg base 7 "_law_own" ["_law_opus", "_law_title", "_law_pairs"] spOwn) (Mo : Mo_ P w K mg base C pB fMo fdMo) (Ht : Ht_ P w K mg base C fHt fdHt) (Sm : Sm_ P w K mg base C fSm fdSm) : Gn P w K mg base 10 f fd ["_law_opus", "_law_heads", "_law_book", "_law_pairs"] (spRg C pB) := by
  obtain ⟨dM, rM, bM⟩ := Mo.b1
  obtain ⟨dH, rH, bH⟩ := Ht.b1
  obtain ⟨dS, rS, bS⟩ := Sm.b1
  obtain ⟨iM, kM⟩ := Mo.k0
  obtain ⟨iH, kH⟩ := Ht.k0
  obtain ⟨iS, kS⟩ := Sm.k0
  refine gn_body D.fn scRight (fun vs H Q E h => ?_) (fun cdv A outer s H vs Q E hg hr h => ?_)
  · obtain ⟨v, T0, L, bv, xs, ps, w, ts, es, rfl, wk, hd, hl, an, eT, tl, l7, at_, or_, eL, pr, ge, l20, tb, q⟩ := h
    rfl
  · obtain ⟨v, T0, L, bv, xs, ps, w, ts, es, rfl, wk, hd, hl, an, eT, tl, l7, at_, or_, eL, pr, ge, l20, tb, q⟩ := h
    refine ⟨_, (pss_cons (ps_set (i := 4) scRight.nd rfl (.inl rfl) (pe_callTy call_tuple_of (by rfl) T.tuple (by decide +kernel) (pa_cons (pe_lc (own := [("_law_title", 8)]) (g := gName 8) (tt := tYes) (by rfl) scRight.nd (pi_tup (pv 1)) (blkOk_by (own := [("_law_title", 8)]) (N := ["_law_opus", "_law_heads", "_law_book", "_law_pairs", "_law_own_here", "_law_due", "_law_tops", "_law_truths", "_law_title"]) (sc := defScope sRight) (by decide +kernel)) (fun _ _ _ _ _ => pg_name (i := 8) scRight.nd rfl (.inl rfl)) (fun _ _ _ _ _ => pts_nil) (fun _ _ _ _ _ => pe_ifExp (pt_cmpR op_isN (pv 8) pe_non (nomark _)) pe_non (pe_ca cOw hr (by decide) (by rfl) (pa_cons (pv 0) (pa_cons (pv 8) (pa_cons (pv 3) pa_nil)))))) pa_nil)))
      (pss_cons (ps_set (i := 5) scRight.nd rfl (.inl rfl) (pe_call Mo.ok (hr.mono (by decide)) (by rfl) Mo.mgf Mo.kp bM rM pass0 (pa_cons (pv 0) (pa_cons (pv 4) pa_nil))))
      (pss_cons (ps_set (i := 6) scRight.nd rfl (.inl rfl) (pe_call Ht.ok (hr.mono (by decide)) (by rfl) Ht.mgf Ht.kp bH rH pass0 (pa_cons (pv 0) (pa_cons (pv 4) pa_nil))))
      (pss_cons (ps_if (PW.pt (pw_or (pt_cmpR op_ne (pe_callB (cr_reprZ hg hr) (by rfl) T.repr (by decide +kernel) (pa_cons (pe_call Mo.ok (hr.mono (by decide)) (by rfl) Mo.mgf Mo.kp Mo.b0 .nil pass0 (pa_cons (pv 0) (pa_cons (pv 1) (pa_cons (pv 2) pa_nil)))) pa_nil)) (pe_callB (cr_reprZ hg hr) (by rfl) T.repr (by decide +kernel) (pa_cons (pv 5) pa_nil)) (nomark _)) (pw_or1 (pt_cmpR op_ne (pe_callB (cr_reprZ hg hr) (by rfl) T.repr (by decide +kernel) (pa_cons (pe_callN Ht.ok (hr.mono (by decide)) (by rfl) Ht.mgf Ht.kp kH pass0 (pa_cons (pv 0) (pa_cons (pv 1) pa_nil)) (pk_cons (pv 2) pk_nil)) pa_nil)) (pe_callB (cr_reprZ hg hr) (by rfl) T.repr (by decide +kernel) (pa_cons (pv 6) pa_nil)) (nomark _))))) (pss_one (ps_ret pe_bl)) pss_nil)
      (pss_cons (ps_if (pt_cmpR op_ne (pe_callB (cr_reprZ hg hr) (by rfl) T.repr (by decide +kernel) (pa_cons (Xkw.pe_callN0 Mo.ok (hr.mono (by decide)) (by rfl) Mo.mgf Mo.kp kM pass0 (pk_cons (pv 0) (pk_cons (pv 1) (pk_cons (pv 2) pk_nil)))) pa_nil)) (pe_callB (cr_reprZ hg hr) (by rfl) T.repr (by decide +kernel) (pa_cons (pv 5) pa_nil)) (nomark _)) (pss_one (ps_ret pe_bl)) pss_nil)
      (pss_cons (ps_set (i := 7) scRight.nd rfl (.inl rfl) (pe_lst (pa_cons (pe_call Sm.ok (hr.mono (by decide)) (by rfl) Sm.mgf Sm.kp Sm.b0 .nil pass0 (pa_cons (pv 0) (pa_cons (pv 1) (pa_cons (pe_ix ix_tup (pv 5) pe_int (fun _ _ => rfl)) (pa_cons (pv 6) (pa_cons (pv 2) pa_nil)))))) (pa_cons (pe_callN Sm.ok (hr.mono (by decide)) (by rfl) Sm.mgf Sm.kp kS pass0 (pa_cons (pv 0) (pa_cons (pv 1) (pa_cons (pe_ix ix_tup (pv 5) pe_int (fun _ _ => rfl)) (pa_cons (pv 6) pa_nil)))) (pk_cons (pv 2) pk_nil)) pa_nil))))
      (pss_cons (ps_expr (pe_bm PySem.F.plainAttrs_list PySem.F.slot_list_append PySem.F.type_list_append mt_append (pv 7) (pa_cons (pe_call Sm.ok (hr.mono (by decide)) (by rfl) Sm.mgf Sm.kp bS rS pass0 (pa_cons (pv 0) (pa_cons (pv 4) (pa_cons (pe_ix ix_tup (pv 5) pe_int (fun _ _ => rfl)) (pa_cons (pv 6) pa_nil))))) pa_nil)))
      (pss_one (ps_ret (pe_cmpR (op_eqD hr.units) (pv 7) (pe_op Xrp.op_repZ (pe_lst (pa_cons pe_bl pa_nil)) pe_int) (nomark _))))))))))), ?_⟩
    have xl := tl.len
    have own1 : ∀ m, An m → An (ownN es w m) := fun m h => by
      rcases own_in (es := es) (w := w) (m := m) with z | z
      · rw [z]; exact h
      · exact an _ z
    refine ⟨_, rfl, T0, rfl, ⟨_, SqT.of eT⟩, fun D nD' => ?_⟩
    have sD := same_upd nD' (o := .lst [])
    refine lc_tup (K := K) (a := T0) (xs := xs) (fun i Hi => L2.Same H Hi ∧ ∃ ys, Hi D = some (.lst ys) ∧ Lp (TtV Hi) ys ((ts.take i).map (Option.map (ownN es w)))) ⟨sD, [], upd_same, .nil⟩ (fun i Hi _ z => SqT.of (z.1 _ _ eT)) ?_ ?_
    · rintro i x Hi hx ⟨sm, ys, eD, lp⟩
      obtain ⟨o, eo, tv⟩ := tl.get hx
      have il := (List.getElem?_eq_some_iff.mp eo).1
      have yl := lp.len
      rw [List.length_map, List.length_take] at yl
      have fin : ∀ (r : V) (H2 : Hp), L2.Same Hi H2 → TtV H2 r (o.map (ownN es w)) → ∃ acc, H2 D = some (.lst acc) ∧ acc.length < sizeLine ∧ (L2.Same H (upd H2 D (.lst (acc ++ [r]))) ∧ ∃ zs, (upd H2 D (.lst (acc ++ [r]))) D = some (.lst zs) ∧ Lp (TtV (upd H2 D (.lst (acc ++ [r])))) zs ((ts.take (i + 1)).map (Option.map (ownN es w)))) := fun r H2 s2 sp => by
        have e2 := s2 _ _ eD
        have tp : Tp H2 (upd H2 D (.lst (ys ++ [r]))) := tp_upd fun us z => by rw [e2] at z; cases z
        refine ⟨ys, e2, Nat.lt_of_le_of_lt (show ys.length ≤ 30 by omega) (by decide), fun b o e => ?_, ys ++ [r], upd_same, ?_⟩
        · rw [upd_ne (ne_of_none e nD')]
          exact s2 _ _ (sm _ _ e)
        · rw [List.take_add_one, eo, List.map_append]
          exact (lp.map fun v a h => h.tp ((tp_same s2).trans tp)).snoc (sp.tp tp)
      refine ⟨rfl, ?_⟩
      unfold tYes
      refine iteT ?_
      cases o with
      | none =>
        obtain rfl : x = .non := tv
        exact ⟨_, rfl, rfl, _, rfl, iteT (fin .non Hi (Same.refl _) rfl)⟩
      | some m =>
        obtain ⟨t, rfl, et⟩ := id (show NmV H x m from tv)
        refine ⟨_, rfl, rfl, _, rfl, iteF ⟨_, rfl, _, rfl, _, rfl, v, .ref t, L, ps, w, m, es, rfl, wk.tp (tp_same sm), hd, hl, an, NmV.tp ⟨t, rfl, et⟩ (tp_same sm), at_ m (List.mem_of_getElem? eo), sm _ _ eL, PrL.tp (tp_same sm) pr, ge, l20, fun r H2 s2 sp => fin r H2 s2 sp⟩⟩
    rintro H1 ⟨s1, ys, eD, lp⟩
    rw [List.take_of_length_le (by omega)] at lp
    obtain ⟨os, hos⟩ : ∃ os, os = ts.map (Option.map (ownN es w)) := ⟨_, rfl⟩
    have ol : os.length = ts.length := by rw [hos, List.length_map]
    have oan : ∀ m, some m ∈ os → An m := fun m hm => by
      rw [hos] at hm
      obtain ⟨o, ho, e⟩ := List.mem_map.mp hm
      cases o with
      | none => cases e
      | some m0 =>
        cases e
        exact own1 m0 (at_ m0 ho)
    have sp0 : (os.map fun t => t.bind (spG (fun a b => decide (a = b)) w)) = ts.map fun t => t.bind (spG (fun a b => N44.oneB es a b) w) := by rw [hos]; exact spans_same es w ts
    rw [← hos] at lp
    refine ⟨_, _, rfl, .inl ⟨SqL.of eD, fun O nO => ?_⟩⟩
    have sO := same_upd nO (o := .tup ys)
    have eO : (L2.upd H1 O (.tup ys)) O = some (.tup ys) := upd_same
    have s2 := s1.trans sO
    have lp2 : Lp (TtV (L2.upd H1 O (.tup ys))) ys os := lp.map fun v a h => h.tp (tp_same sO)
    generalize L2.upd H1 O (.tup ys) = H2 at eO s2 lp2 ⊢
    clear sO nO eD lp s1 sD nD'
    have nlw := nl_nms w
    -- due
    refine ⟨_, rfl, _, rfl, v, O, ys, w, os, .non, _, rfl, .non, wk.tp (tp_same s2), hd, hl, an, SqT.of eO, lp2, by omega, oan, tb.ext s2, fun t c k m is l H3 x3 t3 e1 e2 e3 m0 mo pk ch ev ls => ?_⟩
    rw [sp0] at mo pk ls
    have hx3 : LamX.ExtN H H3 := (LamX.ExtN.of s2).trans x3
    -- tops
    refine ⟨_, rfl, _, rfl, v, O, ys, w, os, .non, _, rfl, .non, wk.tp (exTp hx3), hd, hl, an, SqT.of (exT x3 eO), lp2.map (fun v a h => h.tp (exTp x3)), by omega, oan, fun u H4 s4 eu => ?_⟩
    rw [sp0, ol] at eu
    have x4 : LamX.ExtN H H4 := hx3.trans (LamX.ExtN.of s4)
    have t4 := t3.ext s4
    -- bounds
    obtain ⟨S, hS⟩ : ∃ S, S = ts.map fun t => t.bind (spG (fun a b => N44.oneB es a b) w) := ⟨_, rfl⟩
    have Sl : S.length = ts.length := by rw [hS, List.length_map]
    have bS : ∀ s, some s ∈ S → s.1 < s.2 ∧ s.2 - s.1 ≤ 100 := fun s h => by
      rw [hS] at h
      obtain ⟨o, _, e⟩ := List.mem_map.mp h
      cases o with
      | none => cases e
      | some m =>
        obtain ⟨a, b, c⟩ := spG_in (show spG _ w m = some s from e)
        exact ⟨b, by omega⟩
    have hb := htl_bd bS
    have moN : ∀ {m : Int} {is : List Nat} {l : List S2}, 0 ≤ m → Pk S 0 is l → vl l = m → Nice (moD m is (lkF l (lvs w).length)) 4 4000 := fun {m is l} m0 pk ev => by
      have bl : ∀ s ∈ l, s.1 < s.2 ∧ s.2 - s.1 ≤ 100 := fun s hs => by
        have := pk.sub.mem hs
        obtain ⟨o, ho, e⟩ := List.mem_filterMap.mp this
        cases e
        exact bS s (List.mem_of_mem_drop ho)
      have ll : l.length ≤ 7 := Nat.le_trans pk.sub.length_le (Nat.le_trans (List.length_filterMap_le _ _) (by rw [List.drop_zero]; omega))
      have il := pk.len
      have vb := vl_bd bl
      refine mo_nice m0 ?_ (fun i hi => ?_) (by omega) (fun i hi => ?_) ?_
      · have : (1000 : Int) < 10 ^ 9 := by decide
        omega
      · obtain ⟨_, s, e, _⟩ := pk.ge i hi
        have := (List.getElem?_eq_some_iff.mp e).1
        omega
      · have := (List.mem_filter.mp hi).1
        rw [List.mem_range] at this
        unfold nl at nlw
        omega
      · refine Nat.le_trans (List.length_filter_le _ _) ?_
        rw [List.length_range]
        unfold nl at nlw
        omega
    rw [← hS] at mo pk ls eu
    have htN0 : Nice (.tuple ((htl S ts.length).map PyData.int)) 2 1400 := tupI_nice (fun n hn => by
      have := hb _ n hn
      have : (1000 : Int) < 10 ^ 9 := by decide
      omega) (by rw [htl_len]; omega)
    obtain ⟨dm, hdm⟩ : ∃ dm, dm = moD m is (lkF l (lvs w).length) := ⟨_, rfl⟩
    obtain ⟨dh, hdh⟩ : ∃ dh, dh = PyData.tuple ((htl S ts.length).map PyData.int) := ⟨_, rfl⟩
    have n1 : Nice dm 4 4000 := by rw [hdm]; exact moN m0 pk ev
    have htN : Nice dh 2 1400 := by rw [hdh]; exact htN0
    -- with the book
    have ask : ∀ {H5 : Hp} {t2 c2 k2 : Addr} {m2 : Int} {is2 : List Nat} {l2 : List S2}, H5 t2 = some (.tup [.int m2, .ref c2, .ref k2]) → H5 c2 = some (.tup ((toI is2).map V.int)) → H5 k2 = some (.tup ((toI (lkF l2 (lvs w).length)).map V.int)) → Most S m2 → Pk S 0 is2 l2 → Ch l2 → vl l2 = m2 → Lst S 0 m2 is2 →
        Dz K H5 (.ref t2) dm := fun {H5 t2 c2 k2 m2 is2 l2} f1 f2 f3 mo2 pk2 ch2 ev2 ls2 => by
      have em : m2 = m := mo2.uniq mo
      subst em
      have ei : is2 = is := lx_uniq (ls _ _ pk2 ch2 ev2) (ls2 _ _ pk ch ev)
      subst ei
      have el := pk2.same pk
      subst el
      rw [hdm]
      exact mo_dz f1 f2 f3
    have or4 := or_.ext x4
    refine ⟨_, rfl, _, rfl, _, rfl, v, T0, xs, w, ts, bv, _, rfl, or4, wk.tp (exTp x4), hd, hl, an, SqT.of (exT x4 eT), tl.map (fun v a h => h.tp (exTp x4)), by omega, at_, t4, fun t5 c5 k5 m5 is5 l5 H5 x5 q5 f1 f2 f3 m50 mo5 pk5 ch5 ev5 ls5 => ?_⟩
    rw [← hS] at mo5 pk5 ls5
    have d5 := ask f1 f2 f3 mo5 pk5 ch5 ev5 ls5
    refine ⟨.ref t5, _, rfl, d5, n1.sh, Nat.le_trans n1.dp (by decide), Nat.le_trans n1.sz (by decide), ?_⟩
    have x05 : LamX.ExtN H H5 := x4.trans x5
    have dz5 : Dz K H5 (.ref t) dm := by
      rw [hdm]
      exact mo_dz (exT ((LamX.ExtN.of s4).trans x5) e1) (exT ((LamX.ExtN.of s4).trans x5) e2) (exT ((LamX.ExtN.of s4).trans x5) e3)
    refine ⟨_, rfl, .ref t, _, rfl, dz5, n1.sh, Nat.le_trans n1.dp (by decide), Nat.le_trans n1.sz (by decide), rfl, _, rfl, ?_⟩
    have ne0 : ∀ z : Str, (!decide (V.str z = V.str z)) = false := fun z => by simp
    rw [ne0]
    refine iteF ?_
    have q5' := q5
    have or5 := or_.ext x05
    -- heights with the book
    refine ⟨_, rfl, _, rfl, _, rfl, rfl, rfl, v, T0, xs, w, ts, bv, _, rfl, or5, wk.tp (exTp x05), hd, hl, an, SqT.of (exT x05 eT), tl.map (fun v a h => h.tp (exTp x05)), by omega, at_, fun u6 H6 s6 eu6 => ?_⟩
    rw [← hS] at eu6
    have x06 : LamX.ExtN H H6 := x05.trans (LamX.ExtN.of s6)
    have q6 := q5.ext s6
    have x46 : LamX.ExtN H4 H6 := x5.trans (LamX.ExtN.of s6)
    have eu_6 := exT x46 eu
    have dhz : ∀ {Hx : Hp} {a : Addr}, Hx a = some (.tup ((htl S ts.length).map V.int)) → Dz K Hx (.ref a) dh := fun {Hx a} e => by
      rw [hdh]
      exact .tup e (dzAll_ints _)
    refine ⟨.ref u6, dh, rfl, dhz eu6, htN.sh, Nat.le_trans htN.dp (by decide), Nat.le_trans htN.sz (by decide), ?_⟩
    refine ⟨_, rfl, .ref u, dh, rfl, dhz eu_6, htN.sh, Nat.le_trans htN.dp (by decide), Nat.le_trans htN.sz (by decide), rfl, _, rfl, ?_⟩
    rw [ne0]
    refine iteF ?_
    -- by names alone
    have or6 := or_.ext x06
    refine ⟨_, rfl, _, rfl, _, rfl, rfl, rfl, v, T0, xs, w, ts, bv, _, rfl, or6, wk.tp (exTp x06), hd, hl, an, SqT.of (exT x06 eT), tl.map (fun v a h => h.tp (exTp x06)), by omega, at_, q6, fun t7 c7 k7 m7 is7 l7 H7 x7 q7 g1 g2 g3 m70 mo7 pk7 ch7 ev7 ls7 => ?_⟩
    rw [← hS] at mo7 pk7 ls7
    have d7 := ask g1 g2 g3 mo7 pk7 ch7 ev7 ls7
    refine ⟨.ref t7, _, rfl, d7, n1.sh, Nat.le_trans n1.dp (by decide), Nat.le_trans n1.sz (by decide), ?_⟩
    have x47 : LamX.ExtN H4 H7 := x46.trans x7
    have x37 : LamX.ExtN H3 H7 := (LamX.ExtN.of s4).trans x47
    have x07 : LamX.ExtN H H7 := x06.trans x7
    have et7 := exT x37 e1
    have dz7 : Dz K H7 (.ref t) dm := by
      rw [hdm]
      exact mo_dz et7 (exT x37 e2) (exT x37 e3)
    refine ⟨_, rfl, .ref t, _, rfl, dz7, n1.sh, Nat.le_trans n1.dp (by decide), Nat.le_trans n1.sz (by decide), rfl, _, rfl, ?_⟩
    rw [ne0]
    refine iteF ?_
    -- the truths
    have shows : smB S m (htl S ts.length) = true := by
      rw [← Sl]
      exact htl_shows (by rw [hS]; exact pos_spG _ w ts) mo m0 (Int.le_refl _)
    have or7 := or_.ext x07
    have eu7 := exT x47 eu
    have hpl : (htl S ts.length).length = ts.length := htl_len S _
    refine ⟨_, rfl, _, rfl, _, rfl, t, _, 0, .int m, rfl, rfl, SqT.of et7, rfl, _, rfl, _, rfl, v, T0, xs, w, ts, bv, _, m, u, _, rfl, or7, wk.tp (exTp x07), hd, hl, an, SqT.of (exT x07 eT), tl.map (fun v a h => h.tp (exTp x07)), by omega, at_, eu7, hpl, fun H8 s8 => ?_⟩
    rw [← hS, shows]
    have x08 := x07.trans (LamX.ExtN.of s8)
    have or8 := or_.ext x08
    refine ⟨_, rfl, _, rfl, _, rfl, t, _, 0, .int m, rfl, rfl, SqT.of (s8 _ _ et7), rfl, _, rfl, _, rfl, rfl, rfl, v, T0, xs, w, ts, bv, _, m, u, _, rfl, or8, wk.tp (exTp x08), hd, hl, an, SqT.of (exT x08 eT), tl.map (fun v a h => h.tp (exTp x08)), by omega, at_, s8 _ _ eu7, hpl, fun H9 s9 => ?_⟩
    rw [← hS, shows]
    refine ⟨(by show 2 ≤ sizeLine; decide), fun G nG => ?_⟩
    have sG := same_upd nG (o := .lst [.bl true, .bl true])
    have eG : (L2.upd H9 G (.lst [.bl true, .bl true])) G = some (.lst [.bl true, .bl true]) := upd_same
    generalize L2.upd H9 G (.lst [.bl true, .bl true]) = HA at sG eG ⊢
    have s7A := (s8.trans s9).trans sG
    have x0A := x07.trans (LamX.ExtN.of s7A)
    have x2A : LamX.ExtN H2 HA := ((x3.trans (LamX.ExtN.of s4)).trans x47).trans (LamX.ExtN.of s7A)
    refine ⟨_, rfl, .inl ⟨rfl, _, SqL.of eG⟩, ?_⟩
    refine ⟨_, rfl, _, rfl, _, rfl, t, _, 0, .int m, rfl, rfl, SqT.of (s7A _ _ et7), rfl, _, rfl, v, O, ys, w, os, .non, _, m, u, _, rfl, .non, wk.tp (exTp x0A), hd, hl, an, SqT.of (exT x2A eO), lp2.map (fun v a h => h.tp (exTp x2A)), by omega, oan, s7A _ _ eu7, by rw [hpl, ol], fun HB sB => ?_⟩
    rw [sp0, ← hS, shows]
    have eGB := sB _ _ eG
    refine ⟨G, _, _, rfl, rfl, eGB, by show 2 < sizeLine; decide, ?_⟩
    have eGC : (L2.upd HB G (.lst ([.bl true, .bl true] ++ [.bl true]))) G = some (.lst [.bl true, .bl true, .bl true]) := upd_same
    have xC : LamX.ExtN H (L2.upd HB G (.lst ([.bl true, .bl true] ++ [.bl true]))) := fun b o e nt => by
      have e9 := (x07.trans (LamX.ExtN.of (s8.trans s9))) _ _ e nt
      rw [upd_ne (ne_of_none e9 nG)]
      exact sB _ _ (x0A _ _ e nt)
    have tC : LamX.Tabs (Tb pB) (L2.upd HB G (.lst ([.bl true, .bl true] ++ [.bl true]))) := tabs_lst (q7.ext (s7A.trans sB)) eGB
    generalize L2.upd HB G (.lst ([.bl true, .bl true] ++ [.bl true])) = HC at eGC xC tC ⊢
    refine ⟨_, rfl, (by show 1 ≤ sizeLine; decide), fun l1 n1 => ?_⟩
    have sl1 := same_upd n1 (o := .lst [.bl true])
    refine ⟨l1, 3, _, rfl, rfl, upd_same, by decide, by decide, by decide, fun p1 np1 ne1 => ?_⟩
    have sp1 := same_upd np1 (o := .lst (List.replicate (3 : Int).toNat [V.bl true]).flatten)
    have s1p := sl1.trans sp1
    refine ⟨.list [.bool true, .bool true, .bool true], .list [.bool true, .bool true, .bool true], .lst (SqL.of (s1p _ _ eGC)) (.cons (.bl _) (.cons (.bl _) (.cons (.bl _) .nil))), .lst (SqL.of (upd_same (o := .lst (List.replicate (3 : Int).toNat [V.bl true]).flatten))) (.cons (.bl _) (.cons (.bl _) (.cons (.bl _) .nil))), by decide +kernel, by decide +kernel, ?_⟩
    rw [show PyData.eqv (.list [.bool true, .bool true, .bool true]) (.list [.bool true, .bool true, .bool true]) = true by decide +kernel]
    exact q _ (xC.trans (LamX.ExtN.of s1p)) (tC.ext s1p)
end
end K44
set_option Elab.async false
set_option linter.all false
set_option maxRecDepth 100000
set_option maxHeartbeats 4000000
set_option pp.maxSteps 400
set_option pp.deepTerms false
namespace K44
open PySem PySem.Spec PyProof.Rows L2
open Xk Az W37
section
variable {P : Program} {w : World} {K : PySem.W.Frag} {mg : Str → Option Value} {base : Heap}
theorem srt_ext : ∀ {a b : List Int}, a.Pairwise (· < ·) → b.Pairwise (· < ·) → (∀ k, k ∈ a ↔ k ∈ b) → a = b
  | [], [], _, _, _ => rfl
  | [], y :: _, _, _, h => absurd ((h y).mpr List.mem_cons_self) (by simp)
  | x :: _, [], _, _, h => absurd ((h x).mp List.mem_cons_self) (by simp)
  | x :: a, y :: b, ha, hb, h => by
    rw [List.pairwise_cons] at ha hb
    have e : x = y := by
      rcases List.mem_cons.mp ((h x).mp List.mem_cons_self) with z | z
      · exact z
      · rcases List.mem_cons.mp ((h y).mpr List.mem_cons_self) with u | u
        · exact u.symm
        · have h1 := hb.1 x z
          have h2 := ha.1 y u
          omega
    subst e
    congr 1
    refine srt_ext ha.2 hb.2 fun k => ⟨fun hk => ?_, fun hk => ?_⟩
    · rcases List.mem_cons.mp ((h k).mp (List.mem_cons_of_mem _ hk)) with z | z
      · have := ha.1 k hk
        omega
      · exact z
    · rcases List.mem_cons.mp ((h k).mpr (List.mem_cons_of_mem _ hk)) with z | z
      · have := hb.1 k hk
        omega
      · exact z
theorem Hand.ext {h : Addr} {n : Int} {H H' : Hp} (hh : Hand n H h) (x : LamX.ExtN H H') : Hand n H' h := by
  obtain ⟨g, m, c, e, r⟩ := hh
  exact ⟨g, m, c, exL x e, r⟩
theorem tabs_but {T : List (Addr × Str)} {n : Int} {h : Addr} {H H' : Hp} (t : LamX.Tabs T H) (hh : Hand n H h) (b : But h H H') : LamX.Tabs T H' := fun p hp => by
  obtain ⟨g, m, c, e, _⟩ := hh
  obtain ⟨ps, h1, h2, h3⟩ := t p hp
  refine ⟨ps, b _ _ (ne_of h1 e (by intro z; cases z)) h1, h2, fun pos cv hc => ?_⟩
  obtain ⟨c, e1, e2⟩ := h3 pos cv hc
  exact ⟨c, e1, b _ _ (ne_of e2 e (by intro z; unfold LamX.CodeO at z; cases z)) e2⟩
theorem sqL_extN {K : PySem.W.Frag} {H H' : Hp} (s : LamX.ExtN H H') {t : Addr} {xs : List V} (q : SqL K H t xs) : SqL K H' t xs := by
  rcases q with (q | ⟨o, q⟩) | q
  · exact .inl (.inl (s _ _ q fun ps z => by cases z))
  · exact .inl (.inr ⟨o, s _ _ q fun ps z => by cases z⟩)
  · exact .inr q
theorem int_sorted {a b : List Int} (p : a.Perm b) (sa : a.Pairwise (· ≤ ·)) (sb : b.Pairwise (· < ·)) : a = b := by
  have nb : b.Nodup := sb.imp fun {x y} h => by omega
  have na : a.Nodup := (List.Perm.nodup_iff p).mpr nb
  exact srt_ext (List.Pairwise.imp₂ (R := (· ≤ ·)) (S := (· ≠ ·)) (fun x y h1 h2 => by omega) sa na) sb fun k => p.mem_iff
theorem tabs_b2n {T : List (Addr × Str)} {H H' : Hp} {b c C dx : Addr} {fs : List (Str × V)} {kv : List (Key × V)} (t : LamX.Tabs T H) (eb : H b = some (.ins C dx fs)) (ec : H c = some (.dK kv)) (s : N44.B2n b c H H') : LamX.Tabs T H' := fun p hp => by
  obtain ⟨ps, h1, h2, h3⟩ := t p hp
  refine ⟨ps, s _ _ (ne_of h1 eb (by intro z; cases z)) (ne_of h1 ec (by intro z; cases z)) h1, h2, fun pos cv hc => ?_⟩
  obtain ⟨k, e1, e2⟩ := h3 pos cv hc
  exact ⟨k, e1, s _ _ (ne_of e2 eb (by intro z; unfold LamX.CodeO at z; cases z)) (ne_of e2 ec (by intro z; unfold LamX.CodeO at z; cases z)) e2⟩
/-- the book stays where its own things do -/
theorem nb_keep {H H' : Hp} {C b c D : Addr} {m : Int} {es : List (Int × Pair)} {fr : Addr → Prop} {kv0 : List (Key × V)} (h : N44.Nb H C b c m es fr) (hD : H D = some (.dK kv0)) (ne : c ≠ D)
    (s : ∀ x o, x ≠ D → H x = some o → (∀ ys, o = .lst ys → fr x) → (∀ ps, o ≠ .tbl ps) → H' x = some o) : N44.Nb H' C b c m es fr := by
  obtain ⟨dx, l, g, kvs, e1, e2, e3, e4, gp, lk⟩ := h.ex
  have tp : Tp H H' := fun x ys e => s x _ (ne_of e hD (by intro z; cases z)) e (fun _ z => by cases z) (fun _ z => by cases z)
  have dt : ∀ x kv, H x = some (.dT kv) → H' x = some (.dT kv) := fun x kv e => s x _ (ne_of e hD (by intro z; cases z)) e (fun _ z => by cases z) (fun _ z => by cases z)
  refine ⟨dx, l, g, kvs, s _ _ (ne_of e1 hD (by intro z; cases z)) e1 (fun _ z => by cases z) (fun _ z => by cases z), s _ _ ne e2 (fun _ z => by cases z) (fun _ z => by cases z), e3, PrL.tp tp e4, ?_, lk.keep (fun kv e => dt _ _ e) (fun x ys f e => s x _ (ne_of e hD (by intro z; cases z)) e (fun _ _ => f) (fun _ z => by cases z)) tp⟩
  obtain ⟨gk, q1, q2, q3⟩ := gp
  refine ⟨gk, dt _ _ q1, fun a ha => ?_, q3⟩
  obtain ⟨t, ys, l, a1, a2, a3, a4⟩ := q2 a ha
  exact ⟨t, ys, l, a1, tp _ _ a2, a3.tp tp, a4⟩
theorem nb_ora {H : Hp} {C b c : Addr} {m : Int} {es : List (Int × Pair)} {fr : Addr → Prop} (h : N44.Nb H C b c m es fr) (gd : ∀ n ∈ Xnp.nodes (es.map (·.2)), An n) : Ora C H (.ref b) (fun x y => N44.oneB (es.map (·.2)) x y) := by
  obtain ⟨dx, l, g, kvs, e1, e2, e3, e4, gp, lk⟩ := h.ex
  refine .book e1 ?_ ?_ ?_ gp gd
  all_goals unfold N44.fsN
  · rw [List.lookup_cons, show (("groups" : Str) == ("many" : Str)) = false by decide +kernel]
    dsimp only
    rw [List.lookup_cons, show (("groups" : Str) == ("counting" : Str)) = false by decide +kernel]
    dsimp only
    rw [List.lookup_cons, show (("groups" : Str) == ("links" : Str)) = false by decide +kernel]
    dsimp only
    rw [List.lookup_cons, show (("groups" : Str) == ("groups" : Str)) = true by decide +kernel]
  · rw [List.lookup_cons, show (("class_of" : Str) == ("many" : Str)) = false by decide +kernel]
    dsimp only
    rw [List.lookup_cons, show (("class_of" : Str) == ("counting" : Str)) = false by decide +kernel]
    dsimp only
    rw [List.lookup_cons, show (("class_of" : Str) == ("links" : Str)) = false by decide +kernel]
    dsimp only
    rw [List.lookup_cons, show (("class_of" : Str) == ("groups" : Str)) = false by decide +kernel]
    rfl
  · rw [List.lookup_cons, show (("are_one" : Str) == ("many" : Str)) = false by decide +kernel]
    dsimp only
    rw [List.lookup_cons, show (("are_one" : Str) == ("counting" : Str)) = false by decide +kernel]
    dsimp only
    rw [List.lookup_cons, show (("are_one" : Str) == ("links" : Str)) = false by decide +kernel]
    dsimp only
    rw [List.lookup_cons, show (("are_one" : Str) == ("groups" : Str)) = false by decide +kernel]
    rfl
theorem fs_no {f : Str} (m : Int) (c l g : Addr) (h1 : (f == ("many" : Str)) = false) (h2 : (f == ("counting" : Str)) = false) (h3 : (f == ("links" : Str)) = false) (h4 : (f == ("groups" : Str)) = false) : (N44.fsN m c l g).lookup f = none := by
  unfold N44.fsN
  rw [List.lookup_cons, h1]
  dsimp only
  rw [List.lookup_cons, h2]
  dsimp only
  rw [List.lookup_cons, h3]
  dsimp only
  rw [List.lookup_cons, h4]
  rfl
abbrev Te := Int × Pair
/-- what the law has told -/
def Told (H : Hp) (D : Addr) (es : List Te) : Prop := ∃ kvs : List (Key × V), H D = some (.dK kvs) ∧ kvs.map (·.1) = es.map (fun e => Sum.inl e.1) ∧ N44.PrL H (kvs.map (·.2)) (es.map (·.2))
/-- what stands still, but for the hand, the book and what is told -/
structure Fix (A M R T1 T2 : Addr) (v : V) (w : W) (xa xm x1 x2 : List V) (no : List Nm) (ts1 ts2 : List (Option Nm)) (Hx : Hp) : Prop where
  eA : Hx A = some (.lst xa)
  nA : NmL Hx xa w.nms
  eM : Hx M = some (.lst xm)
  nM : NmL Hx xm no
  wk : Wk Hx v w
  eR : Hx R = some (.lst [.ref T1, .ref T2])
  e1 : Hx T1 = some (.tup x1)
  l1 : Lp (TtV Hx) x1 ts1
  e2 : Hx T2 = some (.tup x2)
  l2 : Lp (TtV Hx) x2 ts2
theorem Fix.keep {A M R T1 T2 : Addr} {v : V} {w : W} {xa xm x1 x2 : List V} {no : List Nm} {ts1 ts2 : List (Option Nm)} {Hx Hy : Hp} (s : Fix A M R T1 T2 v w xa xm x1 x2 no ts1 ts2 Hx) (l : ∀ x ys, (x = A ∨ x = M ∨ x = R) → Hx x = some (.lst ys) → Hy x = some (.lst ys)) (tp : Tp Hx Hy) : Fix A M R T1 T2 v w xa xm x1 x2 no ts1 ts2 Hy :=
  ⟨l _ _ (.inl rfl) s.eA, s.nA.tp tp, l _ _ (.inr (.inl rfl)) s.eM, s.nM.tp tp, s.wk.tp tp, l _ _ (.inr (.inr rfl)) s.eR, tp _ _ s.e1, s.l1.map (fun v a z => z.tp tp), tp _ _ s.e2, s.l2.map (fun v a z => z.tp tp)⟩
/-- the book, what is told, the tables, and how far all has gone -/
structure Sx (C h b c D pB : Addr) (H0 Hb : Hp) (n m : Int) (es : List Te) (Hx : Hp) : Prop where
  hd : Hand n Hx h
  nb : N44.Nb Hx C b c m es (fun x => ∀ ys, Hb x ≠ some (.lst ys))
  td : Told Hx D es
  tb : LamX.Tabs (Tb pB) Hx
  low : ∀ x ys, Hb x = some (.lst ys) → ∃ zs, Hx x = some (.lst zs)
  back : ∀ x o, H0 x = some o → (∀ ps, o ≠ .tbl ps) → Hx x = some o
/-- the numbers of what is told -/
structure Nu (m : Int) (es : List Te) : Prop where
  m0 : 0 ≤ m
  lt : ∀ e ∈ es, 0 ≤ e.1 ∧ e.1 < m ∧ An e.2.1 ∧ An e.2.2
  rise : (es.map (·.1)).Pairwise (· < ·)
theorem Told.tp {H H' : Hp} {D : Addr} {es : List Te} (h : Told H D es) (e : ∀ kv, H D = some (.dK kv) → H' D = some (.dK kv)) (tp : Tp H H') : Told H' D es := by
  obtain ⟨kvs, e1, e2, e3⟩ := h
  exact ⟨kvs, e _ e1, e2, PrL.tp tp e3⟩
theorem Sx.but {C h b c D pB : Addr} {H0 Hb Hx Hy : Hp} {n n' m : Int} {es : List Te} (s : Sx C h b c D pB H0 Hb n m es Hx) (hb : ∃ ys, Hb h = some (.lst ys)) (cD : c ≠ D) (h0 : ∀ o, H0 h = some o → ∃ ps, o = .tbl ps) (k : But h Hx Hy) (hd : Hand n' Hy h) : Sx C h b c D pB H0 Hb n' m es Hy := by
  obtain ⟨kvs, e1, e2, e3⟩ := s.td
  obtain ⟨g0, eh⟩ := s.hd.at_
  have tp : Tp Hx Hy := fun x ys e => k x _ (ne_of e eh (by intro z; cases z)) e
  refine ⟨hd, nb_keep s.nb e1 cD fun x o nD e fl nt => k x o (fun z => ?_) e, s.td.tp (fun kv e => k _ _ (ne_of e eh (by intro z; cases z)) e) tp, tabs_but s.tb s.hd k, fun x zs hx => ?_, fun x o e nt => ?_⟩
  · rw [z, eh] at e
    cases e
    rw [z] at fl
    obtain ⟨ys, hb⟩ := hb
    exact fl _ rfl _ hb
  · by_cases z : x = h
    · obtain ⟨g1, eh'⟩ := hd.at_
      rw [z]
      exact ⟨_, eh'⟩
    · obtain ⟨us, e⟩ := s.low x zs hx
      exact ⟨us, k x _ z e⟩
  · exact k x o (fun z => let ⟨ps, hp⟩ := h0 o (by rw [← z]; exact e); nt ps hp) (s.back x o e nt)
theorem Sx.same {C h b c D pB : Addr} {H0 Hb Hx Hy : Hp} {n m : Int} {es : List Te} (s : Sx C h b c D pB H0 Hb n m es Hx) (k : L2.Same Hx Hy) : Sx C h b c D pB H0 Hb n m es Hy := by
  refine ⟨s.hd.same k, s.nb.same k, s.td.tp (fun kv e => k _ _ e) (tp_same k), s.tb.ext k, fun x zs hx => ?_, fun x o e nt => k _ _ (s.back x o e nt)⟩
  obtain ⟨us, e⟩ := s.low x zs hx
  exact ⟨us, k x _ e⟩
theorem Sx.ext {C h b c D pB : Addr} {H0 Hb Hx Hy : Hp} {n m : Int} {es : List Te} (s : Sx C h b c D pB H0 Hb n m es Hx) (cD : c ≠ D) (k : LamX.ExtN Hx Hy) (t : LamX.Tabs (Tb pB) Hy) : Sx C h b c D pB H0 Hb n m es Hy := by
  obtain ⟨kvs, e1, e2, e3⟩ := s.td
  exact ⟨s.hd.ext k, nb_keep s.nb e1 cD fun x o _ e _ nt => k x o e nt, s.td.tp (fun kv e => k _ _ e fun _ z => by cases z) (exTp k), t, fun x zs hx => let ⟨us, e⟩ := s.low x zs hx; ⟨us, exL k e⟩, fun x o e nt => k _ _ (s.back x o e nt) nt⟩
theorem Sx.step {C h b c D pB : Addr} {H0 Hb Hx H' : Hp} {n m m' : Int} {es es' : List Te} {kvs kvs' : List (Key × V)} (s : Sx C h b c D pB H0 Hb n m es Hx) (n0 : ∀ x, (x = b ∨ x = c ∨ x = D) → ∀ o, H0 x = some o → ∃ ps, o = .tbl ps) (cD : c ≠ D) (eD : Hx D = some (.dK kvs)) (nb : N44.Nb H' C b c m' es' (fun x => Hx x = none)) (k : N44.B2n b c Hx H') (ek : kvs'.map (·.1) = es'.map (fun e => Sum.inl e.1)) (pr : N44.PrL H' (kvs'.map (·.2)) (es'.map (·.2))) : Sx C h b c D pB H0 Hb n m' es' (upd H' D (.dK kvs')) := by
  obtain ⟨dx, l, g, kc, eb, ec, _⟩ := s.nb.ex
  have Db : D ≠ b := ne_of eD eb (by intro z; cases z)
  have Dc : D ≠ c := cD.symm
  have eD' := k _ _ Db Dc eD
  obtain ⟨g0, eh⟩ := s.hd.at_
  have hb : h ≠ b := ne_of eh eb (by intro z; cases z)
  have hc : h ≠ c := ne_of eh ec (by intro z; cases z)
  have hD : h ≠ D := ne_of eh eD (by intro z; cases z)
  have tpD : Tp H' (upd H' D (.dK kvs')) := tp_upd fun us z => by rw [eD'] at z; cases z
  refine ⟨?_, nb_keep (nb.imp fun x ys _ f ys2 e => ?_) eD' cD fun x o nD e _ _ => by rw [upd_ne nD]; exact e, ⟨kvs', upd_same, ek, pr.tp tpD⟩, tabs_dk (tabs_b2n s.tb eb ec k) eD', fun x zs hx => ?_, fun x o e nt => ?_⟩
  · obtain ⟨q1, q2, q3, q4, q5⟩ := s.hd
    exact ⟨q1, q2, q3, by rw [upd_ne hD]; exact k _ _ hb hc q4, q5⟩
  · obtain ⟨us, e2⟩ := s.low x ys2 e
    rw [e2] at f
    cases f
  · obtain ⟨us, e2⟩ := s.low x zs hx
    have xD : x ≠ D := ne_of e2 eD (by intro z; cases z)
    exact ⟨us, by rw [upd_ne xD]; exact k _ _ (ne_of e2 eb (by intro z; cases z)) (ne_of e2 ec (by intro z; cases z)) e2⟩
  · have off : ∀ y, (y = b ∨ y = c ∨ y = D) → x ≠ y := fun y hy z => by
      obtain ⟨ps, hp⟩ := n0 y hy o (by rw [← z]; exact e)
      exact nt ps hp
    rw [upd_ne (off D (.inr (.inr rfl)))]
    exact k _ _ (off b (.inl rfl)) (off c (.inr (.inl rfl))) (s.back x o e nt)
theorem Sx.mono {C h b c D pB : Addr} {H0 Hb Hx : Hp} {n n' m : Int} {es : List Te} (s : Sx C h b c D pB H0 Hb n m es Hx) (l : n ≤ n') : Sx C h b c D pB H0 Hb n' m es Hx := ⟨s.hd.mono l, s.nb, s.td, s.tb, s.low, s.back⟩
theorem tabs_ls2 {T : List (Addr × Str)} {H : Hp} {D : Addr} {us : List V} {o : HO} (t : LamX.Tabs T H) (e : H D = some (.lst us)) : LamX.Tabs T (upd H D o) := fun p hp => by
  obtain ⟨ps, q1, q2, q3⟩ := t p hp
  refine ⟨ps, by rw [upd_ne (ne_of q1 e (by intro z; cases z))]; exact q1, q2, fun pos cv hc => ?_⟩
  obtain ⟨k5, r1, r2⟩ := q3 pos cv hc
  exact ⟨k5, r1, by rw [upd_ne (ne_of r2 e (by intro z; unfold LamX.CodeO at z; cases z))]; exact r2⟩
theorem Nu.filter {m : Int} {es : List Te} (h : Nu m es) (p : Te → Bool) : Nu m (es.filter p) :=
  ⟨h.m0, fun e he => h.lt e (List.mem_filter.mp he).1, h.rise.sublist (List.filter_sublist.map _)⟩
theorem Nu.snoc {m : Int} {es : List Te} (h : Nu m es) {x y : Nm} (ax : An x) (ay : An y) : Nu (m + 1) (es ++ [((m, (x, y)) : Te)]) := by
  have m0 := h.m0
  refine ⟨by omega, fun e he => ?_, ?_⟩
  · rcases List.mem_append.mp he with z | z
    · obtain ⟨a, b, c⟩ := h.lt e z
      exact ⟨a, by omega, c⟩
    · rw [List.mem_singleton.mp z]
      exact ⟨m0, by show m < m + 1; omega, ax, ay⟩
  · rw [List.map_append, List.pairwise_append]
    refine ⟨h.rise, List.pairwise_singleton .., fun a ha b hb => ?_⟩
    obtain ⟨e, he, rfl⟩ := List.mem_map.mp ha
    rw [List.map_cons, List.map_nil, List.mem_singleton] at hb
    rw [hb]
    exact (h.lt e he).2.1
theorem Nu.an {m : Int} {es : List Te} (h : Nu m es) : ∀ n ∈ Xnp.nodes (es.map (·.2)), An n := fun n hn => by
  unfold Xnp.nodes at hn
  obtain ⟨p, hp, hn⟩ := List.mem_flatMap.mp hn
  obtain ⟨e, he, rfl⟩ := List.mem_map.mp hp
  obtain ⟨_, _, a, b⟩ := h.lt e he
  rcases List.mem_cons.mp hn with z | z
  · rw [z]; exact a
  · rw [List.mem_singleton.mp z]; exact b
theorem other_one {ns : List Nm} (h : ns.Nodup) (l : 2 ≤ ns.length) (a : Nm) : (ns.filter fun m => decide (m ≠ a)) ≠ [] := fun z => by
  match ns, h, l with
  | x :: y :: r, h, _ =>
    have h1 := List.nodup_cons.mp h
    have all : ∀ m ∈ x :: y :: r, m = a := fun m hm => by
      have := List.filter_eq_nil_iff.mp z m hm
      simpa using this
    have e1 := all x List.mem_cons_self
    have e2 := all y (List.mem_cons_of_mem _ List.mem_cons_self)
    exact h1.1 (by rw [e1, ← e2]; exact List.mem_cons_self)
theorem valV_of_mem : ∀ {kvs : List (Key × V)}, (kvs.map (·.1)).Nodup → ∀ {kv : Key × V}, kv ∈ kvs → valV kvs kv.1 = some kv.2
  | [], _, _, h => by cases h
  | p :: r, nd, kv, h => by
    rw [List.map_cons, List.nodup_cons] at nd
    rcases List.mem_cons.mp h with z | z
    · rw [z]
      exact valV_pos rfl
    · rw [valV_neg fun w => nd.1 (by rw [w]; exact List.mem_map_of_mem z)]
      exact valV_of_mem nd.2 z
theorem told_get {kvs : List (Key × V)} {es : List Te} {i : Nat} {e : Te} (ek : kvs.map (·.1) = es.map (fun e => Sum.inl e.1)) (rise : (es.map (·.1)).Pairwise (· < ·)) (he : es[i]? = some e) : ∃ kv : Key × V, kvs[i]? = some kv ∧ valV kvs (.inl e.1) = some kv.2 := by
  have ki : (kvs.map (·.1))[i]? = some (Sum.inl e.1) := by rw [ek, List.getElem?_map, he]; rfl
  rw [List.getElem?_map] at ki
  obtain ⟨kv, e1, e2⟩ := Option.map_eq_some_iff.mp ki
  refine ⟨kv, e1, ?_⟩
  have nd : (kvs.map (·.1)).Nodup := by
    rw [ek]
    refine List.pairwise_map.mpr (List.Pairwise.imp (fun {a b} (z : a.1 < b.1) w => ?_) (List.pairwise_map.mp rise))
    have := Sum.inl.inj w
    omega
  have := valV_of_mem nd (List.mem_of_getElem? e1)
  rw [e2] at this
  exact this
end
end K44
set_option Elab.async false
set_option linter.all false
set_option maxRecDepth 100000
set_option maxHeartbeats 4000000
set_option pp.maxSteps 400
set_option pp.deepTerms false
namespace K44
open PySem PySem.Spec PyProof.Rows L2
open Xk Az W37
section
variable {P : Program} {w : World} {K : PySem.W.Frag} {mg : Str → Option Value} {base : Heap}
structure Mn (P : Program) (w : World) (K : PySem.W.Frag) (mg : Str → Option Value) (base : Heap) (C f : Addr) (fd : FuncData) : Prop where
  mm : Mk K C f
  gl : mg "Names" = some (.ref C)
  ok : FnOk P w K mg base CX0 1 f fd ["self"] (N44.spInit C)
  bd : Binds K fd ["self"] []
def spLaw (pB : Addr) (K : PySem.W.Frag) : Sp := fun vs H Q _ => ∃ (a : Addr) (ns : List Int), vs = [.ref a] ∧ SqL K H a (ns.map V.int) ∧ ns.length ≤ 63 ∧ LamX.Tabs (Tb pB) H ∧ ∀ H', Q (.bl true) H'
theorem ok_law {f : Addr} {fd : FuncData} {C pB fG fR : Addr} {fdG fdR : FuncData} (D : Df K mg "law" ["_law_script"] sLaw f fd) (T : Txt mg) (cH : Ca P w K mg base 1 "_law_hand" ["_law_script", "_law_k"] (spHand K)) (cT : Ca P w K mg base 1 "_law_take" ["_law_hand_here", "_law_many"] spTake) (cP : Ca P w K mg base 2 "_law_pick" ["_law_hand_here", "_law_some"] spPick) (cN : Ca P w K mg base 4 "_law_names" ["_law_hand_here", "_law_many"] spNames) (cTA : Ca P w K mg base 8 "_law_tree" ["_law_hand_here", "_law_deep", "_law_left"] (fun vs H Q E => ∃ n, n ≤ 5 ∧ spTree n vs H Q E)) (cAA : Ca P w K mg base 6 "_law_all" ["_law_opus"] (spAll 5)) (cTi : Ca P w K mg base 3 "_law_titles" ["_law_hand_here", "_law_several", "_law_others", "_law_most"] spTi) (N : N44.NbC K C) (G : Mn P w K mg base C fG fdG) (cTe : N44.Mt P w K mg base 6 C "tell" ["self", "one", "other"] (N44.spTell C)) (cSk : N44.Mt P w K mg base 6 C "strike" ["self", "number"] (N44.spStrike C)) (DR : Df K mg "_law_right" ["_law_opus", "_law_heads", "_law_book", "_law_pairs"] sRight fR fdR) (GR : Gn P w K mg base 10 fR fdR ["_law_opus", "_law_heads", "_law_book", "_law_pairs"] (spRg C pB)) : Gn P w K mg base 12 f fd ["_law_script"] (spLaw pB K) := by
  obtain ⟨fT, fdT, mtT, okT, bdT⟩ := cTe.ex
  obtain ⟨fK, fdK, mtK, okK, bdK⟩ := cSk.ex
  refine gn_body D.fn scLaw (fun vs H Q E h => ?_) (fun cdv A outer s H vs Q E hg hr h => ?_)
  · obtain ⟨a, ns, rfl, hS, hlen, tb, q⟩ := h
    rfl
  · obtain ⟨a, ns, rfl, hS, hlen, tb, q⟩ := h
    refine ⟨_, (pss_cons (ps_for PassesOwn.never rfl (pi_range1 (by rfl) T.range (pa_cons (pe_callB (call_max2 (by rfl)) (by rfl) T.max (by decide +kernel) (pa_cons pe_int (pa_cons (pe_callB (call_min2 (by rfl)) (by rfl) T.min (by decide +kernel) (pa_cons (pe_callB call_len_seq (by rfl) T.len PySem.boot_len (pa_cons (pv 0) pa_nil)) (pa_cons pe_int pa_nil))) pa_nil))) pa_nil)) (pg_name (i := 1) scLaw.nd rfl (.inl rfl)) (pss_cons (ps_set (i := 2) scLaw.nd rfl (.inl rfl) (pe_ca cH hr (by decide) (by rfl) (pa_cons (pv 0) (pa_cons (pv 1) pa_nil))))
      (pss_cons (ps_set (i := 3) scLaw.nd rfl (.inl rfl) (pe_ca cN hr (by decide) (by rfl) (pa_cons (pv 2) (pa_cons pe_int pa_nil))))
      (pss_cons (ps_set (i := 4) scLaw.nd rfl (.inr rfl) (pe_ca cTA hr (by decide) (by rfl) (pa_cons (pv 2) (pa_cons (pe_op op_add pe_int (pe_ca cT hr (by decide) (by rfl) (pa_cons (pv 2) (pa_cons pe_int pa_nil)))) (pa_cons (pe_slice sl_list (pv 3) po_none (po_some (pe_op op_add pe_int (pe_ca cT hr (by decide) (by rfl) (pa_cons (pv 2) (pa_cons pe_int pa_nil)))))) pa_nil)))))
      (pss_cons (ps_asg (pe_tup (pa_cons (pe_ca cAA hr (by decide) (by rfl) (pa_cons (pv 4) pa_nil)) (pa_cons (pe_slice sl_list (pv 3) (po_some pe_int) po_none) (pa_cons (pe_make0 G.mm G.ok (hr.mono (by decide)) (by rfl) G.gl G.bd .nil pass0) (pa_cons (pe_dnewK) pa_nil))))) (pg_tup (by rfl) (pgs_cons (pg_name (i := 5) scLaw.nd rfl (.inl rfl)) (pgs_cons (pg_name (i := 6) scLaw.nd rfl (.inl rfl)) (pgs_cons (pg_name (i := 7) scLaw.nd rfl (.inr rfl)) (pgs_cons (pg_name (i := 8) scLaw.nd rfl (.inr rfl)) pgs_nil))))))
      (pss_cons (ps_set (i := 9) scLaw.nd rfl (.inl rfl) (pe_lst (pa_cons (pe_ca cTi hr (by decide) (by rfl) (pa_cons (pv 2) (pa_cons (pe_op op_cat (pv 5) (pv 6)) (pa_cons (pv 6) (pa_cons pe_int pa_nil))))) (pa_cons (pe_ca cTi hr (by decide) (by rfl) (pa_cons (pv 2) (pa_cons (pv 6) (pa_cons (pv 5) (pa_cons pe_int pa_nil))))) pa_nil))))
      (pss_one (ps_for PassesOwn.never rfl (pi_range1 (by rfl) T.range (pa_cons pe_int pa_nil)) (pg_name (i := 10) scLaw.nd rfl (.inl rfl)) (C8.pss_cut (ps_if (PW.pt (pw_and (pt_cmpR op_eq (pe_ca cT hr (by decide) (by rfl) (pa_cons (pv 2) (pa_cons pe_int pa_nil))) pe_int (nomark _)) (pw_and1 (pt_cmpR op_gt (pe_callB call_lenD (by rfl) T.len PySem.boot_len (pa_cons (pv 8) pa_nil)) pe_int (nomark _))))) (pss_cons (ps_set (i := 11) scLaw.nd rfl (.inl rfl) (pe_ca cP hr (by decide) (by rfl) (pa_cons (pv 2) (pa_cons (pe_callB (call_sortedDI (by rfl)) (by rfl) T.sorted (by decide +kernel) (pa_cons (pv 8) pa_nil)) pa_nil))))
      (pss_cons (ps_expr (pe_meth (pv 7) N.cls mtK okK (hr.mono (by decide)) bdK .nil pass0 (pa_cons (pv 11) pa_nil)))
      (pss_one (ps_expr (pe_dpop1 (pv 8) (pv 11) ⟨by rfl, by rfl, by rfl, by rfl⟩))))) (pss_cons (ps_set (i := 12) scLaw.nd rfl (.inr rfl) (pe_ca cP hr (by decide) (by rfl) (pa_cons (pv 2) (pa_cons (pv 6) pa_nil))))
      (pss_cons (ps_set (i := 13) scLaw.nd rfl (.inl rfl) (pe_ca cP hr (by decide) (by rfl) (pa_cons (pv 2) (pa_cons (pe_lc (own := [("_law_name", 15)]) (g := gName 15) (tt := tTest (tOp (rNeD K) (tVar 15) (tVar 12))) (by rfl) scLaw.nd (pi_list (pe_op op_cat (pv 5) (pv 6))) (blkOk_by (own := [("_law_name", 15)]) (N := ["_law_script", "_law_k", "_law_hand_here", "_law_several", "_law_opus", "_law_some", "_law_more", "_law_book", "_law_told", "_law_rows", "_law_turn", "_law_number", "_law_one", "_law_other", "_law_pairs", "_law_name", "_law_heads"]) (sc := defScope sLaw) (by decide +kernel)) (fun _ _ _ _ _ => pg_name (i := 15) scLaw.nd rfl (.inl rfl)) (fun _ _ _ _ _ => (pts_one (pt_cmpR (op_neD hr.units) (pv 15) (pv 12) (nomark _)))) (fun _ _ _ _ _ => pv 15)) pa_nil))))
      (pss_one (ps_dput (hu_of hr) (pv 8) (pe_meth (pv 7) N.cls mtT okT (hr.mono (by decide)) bdT .nil pass0 (pa_cons (pv 12) (pa_cons (pv 13) pa_nil))) (pe_tup (pa_cons (pv 12) (pa_cons (pv 13) pa_nil))) rfl)))))
      (pss_cons (ps_set (i := 14) scLaw.nd rfl (.inr rfl) (pe_lc (own := [("_law_number", 11)]) (g := gName 11) (tt := tYes) (te := tDGet (tVar 8) (tVar 11)) (by rfl) scLaw.nd (pi_list (pe_callB (call_sortedDI (by rfl)) (by rfl) T.sorted (by decide +kernel) (pa_cons (pv 8) pa_nil))) (blkOk_by (own := [("_law_number", 11)]) (N := ["_law_script", "_law_k", "_law_hand_here", "_law_several", "_law_opus", "_law_some", "_law_more", "_law_book", "_law_told", "_law_rows", "_law_turn", "_law_number", "_law_one", "_law_other", "_law_pairs", "_law_name", "_law_heads"]) (sc := defScope sLaw) (by decide +kernel)) (fun _ _ _ _ _ => pg_name (i := 11) scLaw.nd rfl (.inl rfl)) (fun _ _ _ _ _ => pts_nil) (fun _ _ _ _ _ => pe_dget (hu_of hr) (pv 8) (pv 11) (fun _ _ => rfl))))
      (pss_one (ps_if (pt_not (pt_val (pe_callB (cr_all (by rfl)) (by rfl) T.all (by decide +kernel) (pa_cons (pe_lc (own := [("_law_heads", 16)]) (g := gName 16) (tt := tYes) (te := tCall (spRg C pB) [] E0 (tCons (tVar 4) (tCons (tVar 16) (tCons (tVar 7) (tCons (tVar 14) tNil))))) (by rfl) scLaw.nd (pi_list (pv 9)) (blkOk_by (own := [("_law_heads", 16)]) (N := ["_law_script", "_law_k", "_law_hand_here", "_law_several", "_law_opus", "_law_some", "_law_more", "_law_book", "_law_told", "_law_rows", "_law_turn", "_law_number", "_law_one", "_law_other", "_law_pairs", "_law_name", "_law_heads"]) (sc := defScope sLaw) (by decide +kernel)) (fun _ _ _ _ _ => pg_name (i := 16) scLaw.nd rfl (.inl rfl)) (fun _ _ _ _ _ => pts_nil) (fun _ _ _ _ _ => pe_gn GR hg (hr.mono (by decide)) (by rfl) DR.mgf DR.fn.kp DR.bd (pa_cons (pv 4) (pa_cons (pv 16) (pa_cons (pv 7) (pa_cons (pv 14) pa_nil)))))) pa_nil)))) (pss_one (ps_ret pe_bl)) pss_nil))))))))))))
      (pss_one (ps_ret pe_bl))), ?_⟩
    refine ⟨_, rfl, a, _, rfl, .inl hS, _, 4, rfl, 1, _, rfl, _, rfl, ?_, ?_, for_range (lo := 0) (fun k σ Hi => ∃ c1 c2 c3 c4 c5 c6 c7 c8 c9 c10 c11 c12 c13 c14 c15 c16 : Option V, σ = [some (.ref a), c1, c2, c3, c4, c5, c6, c7, c8, c9, c10, c11, c12, c13, c14, c15, c16] ∧ LamX.ExtN H Hi ∧ LamX.Tabs (Tb pB) Hi) ?_ ?_ ?_⟩
    · rw [List.length_map]; split <;> (try split) <;> omega
    · rw [List.length_map]; split <;> (try split) <;> omega
    · exact ⟨_, _, _, _, _, _, _, _, _, _, _, _, _, _, _, _, rfl, LamX.ExtN.refl H, tb⟩
    rotate_left
    · rintro σ Hi ⟨c1, c2, c3, c4, c5, c6, c7, c8, c9, c10, c11, c12, c13, c14, c15, c16, rfl, xm, tm⟩
      exact q _
    rintro kk σ Hi hk ⟨c1, c2, c3, c4, c5, c6, c7, c8, c9, c10, c11, c12, c13, c14, c15, c16, rfl, xm, tm⟩
    refine ⟨_, rfl, _, rfl, a, 0 + (kk : Int), ns, rfl, by omega, sqL_extN xm hS, fun h g m nh g0 m0 m1 => ?_⟩
    have sh := same_upd nh (o := .lst [.int g, .int m, .int 0])
    have hh0 : Hand 0 (upd Hi h (.lst [.int g, .int m, .int 0])) h := ⟨g, m, 0, upd_same, g0, m0, m1, Int.le_refl _, Int.le_refl _⟩
    have t0 := tm.ext sh
    have bk0 : But h Hi (upd Hi h (.lst [.int g, .int m, .int 0])) := Same.but sh h
    generalize upd Hi h (.lst [.int g, .int m, .int 0]) = H0 at hh0 t0 bk0 ⊢
    clear sh
    have tpB : ∀ {Hx Hy : Hp} {m : Int}, Hand m Hx h → But h Hx Hy → Tp Hx Hy := fun {Hx Hy m} hx b c ys e => b c _ (hx.ne_tup (K := K) e) e
    -- several
    refine ⟨_, rfl, h, 0, 20, rfl, by decide, by decide, hh0, by decide, fun S xs nms H1 eS Sh nS nmS ln nd gn h1 b1 => ?_⟩
    have l20 : nms.length = 20 := by omega
    have xl20 := nmS.len
    -- the work
    refine ⟨_, rfl, _, rfl, h, 5, 0 + 400, rfl, by decide, by decide, h1, by decide, fun d H2 d0 d1 h2 b2 => ⟨1, d, rfl, rfl, ?_⟩⟩
    have eS2 := b2 _ _ Sh eS
    have nmS2 := nmS.tp (tpB h1 b2)
    refine ⟨_, rfl, _, rfl, h, 12, 0 + 400 + 1, rfl, by decide, by decide, h2, by decide, fun e H3 e0 e1 h3 b3 => ⟨1, e, rfl, rfl, _, rfl, S, xs, rfl, SqL.of (b3 _ _ Sh eS2), fun P nP => ?_⟩⟩
    obtain ⟨j, rfl⟩ : ∃ j : Nat, d = (j : Int) := ⟨d.toNat, by omega⟩
    obtain ⟨i, rfl⟩ : ∃ i : Nat, e = (i : Int) := ⟨e.toNat, by omega⟩
    rw [show cutV xs none (some (1 + (i : Int))) = xs.take (i + 1) from by rw [show (1 : Int) + (i : Int) = ((i + 1 : Nat) : Int) by omega]; exact cutV_take xs (i + 1)]
    have eS3 := b3 _ _ Sh eS2
    have nmS3 := nmS2.tp (tpB h2 b3)
    have sP := same_upd nP (o := .lst (xs.take (i + 1)))
    have eP : (L2.upd H3 P (.lst (xs.take (i + 1)))) P = some (.lst (xs.take (i + 1))) := upd_same
    have Ph := h3.fresh nP
    have h4 := h3.same sP
    have eS4 := sP _ _ eS3
    have nmS4 := nmS3.tp (tp_same sP)
    have b04 := ((b1.trans b2).trans b3).trans (Same.but sP h)
    have SP : S ≠ P := ne_of_none eS3 nP
    generalize L2.upd H3 P (.lst (xs.take (i + 1))) = H4 at eP h4 eS4 nmS4 b04 ⊢
    have nmP : NmL H4 (xs.take (i + 1)) (nms.take (i + 1)) := nmS4.take (i + 1)
    have lP : (nms.take (i + 1)).length = i + 1 := by rw [List.length_take]; omega
    refine ⟨j + 1, by omega, h, 0 + 400 + 1 + 1, P, _, _, by show [V.ref h, V.int (1 + (j : Int)), V.ref P] = _; rw [show (1 : Int) + (j : Int) = ((j + 1 : Nat) : Int) by omega], eP, Ph, nmP, (fun z => by rw [z] at lP; simp at lP), by omega, h4, by rw [lP]; show (402 : Int) + ((i + 1 : Nat) : Int) ≤ 1000000; omega, fun v w m' H5 hm eP5 wk enm dw h5 b5 => ?_⟩
    have tp45 : Tp H4 H5 := fun x ys e => b5 x _ (h4.ne_tup (K := K) e) (ne_of e eP (by intro z; cases z)) e
    have eS5 := b5 _ _ Sh SP eS4
    have nmS5 := nmS4.tp tp45
    have HP : Hi P = none := by
      cases z : Hi P with
      | none => rfl
      | some o =>
        exfalso
        have := ((bk0.trans b1).trans (b2.trans b3)) _ _ Ph z
        rw [nP] at this
        cases this
    have back5 : ∀ b o, Hi b = some o → H5 b = some o := fun b o e => b5 _ _ (ne_of_none e nh) (ne_of_none e HP) (b04 _ _ (ne_of_none e nh) (bk0 _ _ (ne_of_none e nh) e))
    have sub : ∀ x ∈ w.nms, x ∈ nms := fun x hx => by
      rw [enm] at hx
      exact List.mem_of_mem_take (List.mem_of_mem_drop (List.mem_reverse.mp hx))
    have wl : w.nms.length ≤ 20 := by
      rw [enm, List.length_reverse, List.length_drop]
      omega
    have wd : w.dp ≤ 5 := by omega
    have t5 : LamX.Tabs (Tb pB) H5 := by
      have t4 := tabs_but t0 hh0 b04
      intro p hp
      obtain ⟨g4, eh4⟩ := h4.at_
      obtain ⟨ps, q1, q2, q3⟩ := t4 p hp
      refine ⟨ps, b5 _ _ (ne_of q1 eh4 (by intro z; cases z)) (ne_of q1 eP (by intro z; cases z)) q1, q2, fun pos cv hc => ?_⟩
      obtain ⟨k5, r1, r2⟩ := q3 pos cv hc
      exact ⟨k5, r1, b5 _ _ (ne_of r2 eh4 (by intro z; unfold LamX.CodeO at z; cases z)) (ne_of r2 eP (by intro z; unfold LamX.CodeO at z; cases z)) r2⟩
    have h5' : Hand 500 H5 h := h5.mono (by rw [lP]; omega)
    clear b5 b04 b3 b2 b1 bk0 t0 eP eP5 nmP eS2 eS3 eS4 nmS2 nmS3 nmS4 nmS h1 h2 h3 h4 h5 hh0 nP Ph SP tp45
    -- some, more, the book, what is told
    refine ⟨_, rfl, v, w, rfl, wk, by show w.dp ≤ 4 + 1; omega, by omega, fun A xa H6 eA nA nA0 s6 => ?_⟩
    refine ⟨_, rfl, _, rfl, S, xs, rfl, SqL.of (s6 _ _ eS5), fun M nM => ?_⟩
    have cm : cutV xs (some (12 : Int)) none = xs.drop 12 := by
      show cutV xs (some ((12 : Nat) : Int)) none = xs.drop 12
      exact cutV_drop xs 12 (by omega)
    rw [cm]
    have sM := same_upd nM (o := .lst (xs.drop 12))
    have eM : (L2.upd H6 M (.lst (xs.drop 12))) M = some (.lst (xs.drop 12)) := upd_same
    have eA7 := sM _ _ eA
    have s57 := s6.trans sM
    have MA : M ≠ A := (ne_of_none eA nM).symm
    have nM6 := nM
    generalize L2.upd H6 M (.lst (xs.drop 12)) = H7 at sM eM eA7 s57 ⊢
    refine fun b dx nb ndx nex => ⟨b, dx, rfl, upd_same, fun c H8 nb8 keep nc => ⟨rfl, ?_⟩⟩
    have s78 : L2.Same H7 H8 := fun x o e => keep x o (ne_of_none e nb) (by rw [upd_ne (ne_of_none e nb), upd_ne (ne_of_none e ndx)]; exact e)
    have nc7 : H7 c = none := by
      have cb : c ≠ b := fun z => by rw [z, upd_same] at nc; cases nc
      rw [upd_ne cb] at nc
      by_cases cd : c = dx
      · rw [cd]; exact ndx
      · rwa [upd_ne cd] at nc
    have eb8 := nb8.ex
    intro D nD
    have sD := same_upd nD (o := .dK [])
    have eD : (L2.upd H8 D (.dK [])) D = some (.dK []) := upd_same
    have s79 := s78.trans sD
    have nb9 := nb8.same sD
    have D7 : H7 D = none := by
      cases z : H7 D with
      | none => rfl
      | some o => have := s78 _ _ z; rw [nD] at this; cases this
    have cD : c ≠ D := by
      obtain ⟨_, _, _, _, _, ec, _⟩ := eb8
      exact ne_of_none ec nD
    generalize L2.upd H8 D (.dK []) = H9 at eD s79 nb9 ⊢
    refine ⟨(by show 4 ≤ sizeLine; decide), fun qa nqa => ?_⟩
    have sq := same_upd nqa (o := .tup [.ref A, .ref M, .ref b, .ref D])
    have eq : (L2.upd H9 qa (.tup [.ref A, .ref M, .ref b, .ref D])) qa = some (.tup [.ref A, .ref M, .ref b, .ref D]) := upd_same
    have nbA := nb9.same sq
    have eDA := sq _ _ eD
    have s5A : L2.Same H5 (L2.upd H9 qa (.tup [.ref A, .ref M, .ref b, .ref D])) := (s57.trans s79).trans sq
    have s7A := s79.trans sq
    generalize L2.upd H9 qa (.tup [.ref A, .ref M, .ref b, .ref D]) = HA at eq nbA eDA s5A s7A ⊢
    refine ⟨qa, _, rfl, SqT.of eq, rfl, _, _, rfl, _, _, rfl, _, _, rfl, _, _, rfl, rfl, ?_⟩
    have hA := h5'.same s5A
    have Ah : A ≠ h := h5'.fresh nA0
    have Mh : M ≠ h := (h5'.same s6).fresh nM6
    have eAA := s7A _ _ eA7
    have eMA := s7A _ _ eM
    have nAA : NmL HA xa w.nms := (nA.tp (tp_same sM)).tp (tp_same s7A)
    have nMA : NmL HA (xs.drop 12) (nms.drop 12) := (nmS5.drop 12).tp (tp_same s5A)
    have lM : (nms.drop 12).length = 8 := by rw [List.length_drop]; omega
    have wpos : 0 < w.nms.length := by cases w; rw [W.nms, List.length_cons]; omega
    have gnA : ∀ m ∈ w.nms, An m := fun m hm => gn m (sub m hm)
    have gnM : ∀ m ∈ nms.drop 12, An m := fun m hm => gn m (List.mem_of_mem_drop hm)
    have ndM : ((nms.drop 12).map (·.2)).Nodup := by
      rw [List.map_drop]
      exact (List.drop_sublist 12 _).nodup nd
    have la := nAA.len
    have lm := nMA.len
    -- the rows
    refine ⟨_, rfl, _, rfl, _, rfl, A, M, xa, xs.drop 12, rfl, rfl, eAA, eMA, Nat.le_trans (show _ ≤ 100 by omega) (by decide), fun U nU => ?_⟩
    have sU := same_upd nU (o := .lst (xa ++ xs.drop 12))
    have eU : (L2.upd HA U (.lst (xa ++ xs.drop 12))) U = some (.lst (xa ++ xs.drop 12)) := upd_same
    have Uh := hA.fresh nU
    have hB0 := hA.same sU
    have nUU : NmL (L2.upd HA U (.lst (xa ++ xs.drop 12))) (xa ++ xs.drop 12) (w.nms ++ nms.drop 12) := (nAA.app nMA).tp (tp_same sU)
    have eMU := sU _ _ eMA
    have eAU := sU _ _ eAA
    have nMU := nMA.tp (tp_same sU)
    have nAU := nAA.tp (tp_same sU)
    have s5U := s5A.trans sU
    have nbU := nbA.same sU
    have eDU := sU _ _ eDA
    have wkU : Wk (L2.upd HA U (.lst (xa ++ xs.drop 12))) v w := wk.tp (tp_same s5U)
    generalize L2.upd HA U (.lst (xa ++ xs.drop 12)) = HU at eU hB0 nUU eMU eAU nMU nAU s5U nbU eDU wkU ⊢
    clear sU nU eAA eMA nAA nMA s5A s7A hA
    refine ⟨_, rfl, h, U, M, 500, _, _, _, _, rfl, hB0, by decide, eU, Uh, nUU, (fun z => by have := congrArg List.length z; rw [List.length_append, lM] at this; simp at this), by rw [List.length_append, lM]; omega, eMU, Mh, nMU, (fun z => by rw [z] at lM; simp at lM), by omega, fun T1 x1 ts1 HV eT1 l1 len1 mem1 hV bV => ?_⟩
    have tpUV : Tp HU HV := tpB hB0 bV
    refine ⟨_, rfl, _, rfl, _, rfl, h, M, A, 500 + 60, _, _, _, _, rfl, hV, by decide, bV _ _ Mh eMU, Mh, nMU.tp tpUV, (fun z => by rw [z] at lM; simp at lM), by omega, bV _ _ Ah eAU, Ah, nAU.tp tpUV, (fun z => by rw [z] at wpos; simp at wpos), by omega, fun T2 x2 ts2 HW eT2 l2 len2 mem2 hW bW => ?_⟩
    have tpVW : Tp HV HW := tpB hV bW
    refine ⟨(by show 2 ≤ sizeLine; decide), fun R nR => ?_⟩
    have sR := same_upd nR (o := .lst [.ref T1, .ref T2])
    have eR : (L2.upd HW R (.lst [.ref T1, .ref T2])) R = some (.lst [.ref T1, .ref T2]) := upd_same
    have Rh := hW.fresh nR
    have hX := hW.same sR
    have bUX : But h HU (L2.upd HW R (.lst [.ref T1, .ref T2])) := (bV.trans bW).trans (Same.but sR h)
    have tpUX : Tp HU (L2.upd HW R (.lst [.ref T1, .ref T2])) := (tpUV.trans tpVW).trans (tp_same sR)
    have fx : Fix A M R T1 T2 v w xa (xs.drop 12) x1 x2 (nms.drop 12) ts1 ts2 (L2.upd HW R (.lst [.ref T1, .ref T2])) :=
      ⟨bUX _ _ Ah eAU, nAU.tp tpUX, bUX _ _ Mh eMU, nMU.tp tpUX, wkU.tp tpUX, eR, (tpVW.trans (tp_same sR)) _ _ eT1, l1.map (fun v a z => z.tp (tpVW.trans (tp_same sR))), (tp_same sR) _ _ eT2, l2.map (fun v a z => z.tp (tp_same sR))⟩
    obtain ⟨Hb, hHb⟩ : ∃ Hb, Hb = L2.upd HW R (.lst [.ref T1, .ref T2]) := ⟨_, rfl⟩
    rw [← hHb] at hX bUX fx eR tpUX ⊢
    obtain ⟨g0, eh0⟩ := hX.at_
    have hbh : ∃ ys, Hb h = some (.lst ys) := ⟨_, eh0⟩
    have sx0 : Sx C h b c D pB H Hb 700 0 [] Hb := by
      refine ⟨hX.mono (by omega), ?_, ⟨[], bUX _ _ (ne_of eDU hB0.at_.choose_spec (by intro z; cases z)) eDU, rfl, .nil⟩, tabs_but (t5.ext s5U) hB0 bUX, fun x ys e => ⟨ys, e⟩, fun x o e nt => ?_⟩
      · refine nb_keep (nbU.imp fun x ys _ f => f.elim) eDU cD fun x o _ e fl _ => ?_
        refine bUX x o (fun z => ?_) e
        obtain ⟨gU, ehU⟩ := hB0.at_
        rw [z, ehU] at e
        cases e
        exact fl _ rfl _ (by rw [z]; exact eh0)
      · have e1 := xm x o e nt
        exact bUX x o (ne_of_none e1 nh) (s5U x o (back5 x o e1))
    have n0 : ∀ x, (x = b ∨ x = c ∨ x = D) → ∀ o, H x = some o → ∃ ps, o = .tbl ps := fun x hx o e => Classical.byContradiction fun z => by
      have nt : ∀ ps, o ≠ .tbl ps := fun ps w => z ⟨ps, w⟩
      have e7 := s57 _ _ (back5 _ _ (xm _ _ e nt))
      rcases hx with w | w | w
      · rw [w, nb] at e7; cases e7
      · rw [w, nc7] at e7; cases e7
      · rw [w, D7] at e7; cases e7
    have nh' : ∀ o, H h = some o → ∃ ps, o = .tbl ps := fun o e => Classical.byContradiction fun z => by
      have e7 := xm _ _ e fun ps w => z ⟨ps, w⟩
      rw [nh] at e7
      cases e7
    have nu0 : Nu 0 ([] : List Te) := ⟨by decide, fun e he => (by cases he), .nil⟩
    have fixB : ∀ {Hx Hy : Hp}, Fix A M R T1 T2 v w xa (xs.drop 12) x1 x2 (nms.drop 12) ts1 ts2 Hx → But h Hx Hy → Tp Hx Hy → Fix A M R T1 T2 v w xa (xs.drop 12) x1 x2 (nms.drop 12) ts1 ts2 Hy := fun {Hx Hy} f k tp => f.keep (fun x ys hx e => k x _ (by rcases hx with z | z | z <;> rw [z] <;> assumption) e) tp
    have fixS : ∀ {Hx Hy : Hp}, Fix A M R T1 T2 v w xa (xs.drop 12) x1 x2 (nms.drop 12) ts1 ts2 Hx → L2.Same Hx Hy → Fix A M R T1 T2 v w xa (xs.drop 12) x1 x2 (nms.drop 12) ts1 ts2 Hy := fun {Hx Hy} f k => f.keep (fun x ys hx e => k x _ e) (tp_same k)
    have b2l : ∀ {Hx Hy : Hp} {m : Int} {es : List Te} {fr : Addr → Prop}, N44.Nb Hx C b c m es fr → N44.B2n b c Hx Hy → ∀ x ys, (Hx x = some (.lst ys) → Hy x = some (.lst ys)) ∧ (Hx x = some (.tup ys) → Hy x = some (.tup ys)) := fun {Hx Hy m es fr} nbx k x ys => by
      obtain ⟨dx, l, g, kc, eb, ec, _⟩ := nbx.ex
      exact ⟨fun e => k _ _ (ne_of e eb (by intro z; cases z)) (ne_of e ec (by intro z; cases z)) e, fun e => k _ _ (ne_of e eb (by intro z; cases z)) (ne_of e ec (by intro z; cases z)) e⟩
    have b2tp : ∀ {Hx Hy : Hp} {m : Int} {es : List Te} {fr : Addr → Prop}, N44.Nb Hx C b c m es fr → N44.B2n b c Hx Hy → Tp Hx Hy := fun nbx k x ys e => (b2l nbx k x ys).2 e
    have fix2 : ∀ {Hx Hy : Hp} {m : Int} {es : List Te} {fr : Addr → Prop} {ks ks' : List (Key × V)}, Fix A M R T1 T2 v w xa (xs.drop 12) x1 x2 (nms.drop 12) ts1 ts2 Hx → N44.Nb Hx C b c m es fr → N44.B2n b c Hx Hy → Hy D = some (.dK ks) → Fix A M R T1 T2 v w xa (xs.drop 12) x1 x2 (nms.drop 12) ts1 ts2 (upd Hy D (.dK ks')) := fun {Hx Hy m es fr ks ks'} f nbx k eD => f.keep (fun x ys hx e => by
      have e2 := (b2l nbx k x ys).1 e
      rw [upd_ne (ne_of e2 eD (by intro z; cases z))]
      exact e2) ((b2tp nbx k).trans (tp_upd fun us z => by rw [eD] at z; cases z))
    refine ⟨6, rfl, by decide, by decide, for_range (lo := 0) (n := (6 : Int).toNat) (fun t σ Hx => ∃ (c10 c11 c12 c13 c14 c15 c16 : Option V) (m : Int) (es : List Te), σ = [some (.ref a), some (.int (0 + (kk : Int))), some (.ref h), some (.ref S), some v, some (.ref A), some (.ref M), some (.ref b), some (.ref D), some (.ref R), c10, c11, c12, c13, c14, c15, c16] ∧ Sx C h b c D pB H Hb (700 + 10 * t) m es Hx ∧ Fix A M R T1 T2 v w xa (xs.drop 12) x1 x2 (nms.drop 12) ts1 ts2 Hx ∧ Nu m es ∧ es.length ≤ t) ?_ ?_ ?_⟩
    · exact ⟨_, _, _, _, _, _, _, 0, [], rfl, sx0, fx, nu0, Nat.le_refl _⟩
    rotate_left
    · rintro σ Hx ⟨c10, c11, c12, c13, c14, c15, c16, m, es, rfl, sx, _, _, _⟩
      exact ⟨_, _, _, _, _, _, _, _, _, _, _, _, _, _, _, _, rfl, fun x o e nt => sx.back x o e nt, sx.tb⟩
    rintro t σ Hx ht ⟨c10, c11, c12, c13, c14, c15, c16, m, es, rfl, sx, fx, nu, le⟩
    have t6 : t < 6 := ht
    have far6 : ∀ k : Int, k ≤ 10 → 700 + 10 * (t : Int) + k ≤ 1000000 := fun k hk => by omega
    refine ⟨fun σ H' => ∃ (c11 c12 c13 : Option V) (m : Int) (es : List Te), σ = [some (.ref a), some (.int (0 + (kk : Int))), some (.ref h), some (.ref S), some v, some (.ref A), some (.ref M), some (.ref b), some (.ref D), some (.ref R), some (.int (0 + (t : Int))), c11, c12, c13, c14, c15, c16] ∧ Sx C h b c D pB H Hb (700 + 10 * ((t + 1 : Nat) : Int)) m es H' ∧ Fix A M R T1 T2 v w xa (xs.drop 12) x1 x2 (nms.drop 12) ts1 ts2 H' ∧ Nu m es ∧ es.length ≤ t + 1, ?_, ?_⟩
    · refine ⟨_, rfl, h, 4, 700 + 10 * t, rfl, by decide, by decide, sx.hd, by show 700 + 10 * (t : Int) ≤ 1000000; omega, fun d Ha d0 d1 ha ba => ⟨rfl, _, rfl, ?_⟩⟩
      have sa := sx.but hbh cD nh' ba ha
      have fa := fixB fx ba (tpB sx.hd ba)
      refine ite2 (fun e4 => ?_) (fun e4 => iteF ?_)
      · obtain ⟨kvs, eDa, eka, pra⟩ := sa.td
        refine ⟨_, rfl, D, kvs, rfl, eDa, _, _, rfl, rfl, _, rfl, ite2 (fun e5 => ?_) (fun e5 => ?_)⟩
        · have kl := congrArg List.length eka
          rw [List.length_map, List.length_map] at kl
          have pos : (0 : Int) < ((kvs.length : Nat) : Int) := of_decide_eq_true e5
          refine ⟨_, rfl, _, rfl, D, kvs, es.map (·.1), rfl, .inl eDa, by rw [eka, List.map_map]; rfl, by rw [List.length_map]; omega, fun ys p pm sy np => ?_⟩
          have yl := pm.length_eq
          rw [List.length_map] at yl
          have sp := same_upd np (o := .lst (ys.map V.int))
          have ep : (L2.upd Ha p (.lst (ys.map V.int))) p = some (.lst (ys.map V.int)) := upd_same
          have sa2 := sa.same sp
          have fa2 := fixS fa sp
          have ph := sa.hd.fresh np
          generalize L2.upd Ha p (.lst (ys.map V.int)) = Ha2 at ep sa2 fa2 ⊢
          refine ⟨h, _, _, rfl, sa2.hd, by show 700 + 10 * (t : Int) + 1 ≤ 1000000; omega, .inl ⟨p, ys.map V.int, rfl, ep, ph, (fun z => by have := congrArg List.length z; rw [List.length_map] at this; simp at this; rw [this] at yl; simp at yl; omega), by rw [List.length_map]; omega, fun v1 Hc mv hc bc => ?_⟩⟩
          have sc := sa2.but hbh cD nh' bc hc
          have fc := fixB fa2 bc (tpB sa2.hd bc)
          obtain ⟨k, mk, rfl⟩ := List.mem_map.mp mv
          obtain ⟨⟨k', x, y⟩, me, ek'⟩ := List.mem_map.mp (pm.mem_iff.mp mk)
          obtain rfl : k' = k := ek'
          obtain ⟨k0, km, _, _⟩ := nu.lt _ me
          obtain ⟨kvs, eDc, ekc, prc⟩ := sc.td
          obtain ⟨dx0, l0, g0, kv0, ebc, _⟩ := sc.nb.ex
          obtain ⟨i, ei⟩ := List.getElem?_of_mem me
          obtain ⟨kv, _, hv⟩ := told_get ekc nu.rise ei
          refine ⟨_, rfl, b, dx0, _, rfl, ebc, fs_no _ _ _ _ (by decide +kernel) (by decide +kernel) (by decide +kernel) (by decide +kernel), _, rfl, _, b, c, m, k', es, x, y, rfl, sc.nb, k0, km, me, List.pairwise_map.mpr ((List.pairwise_map.mp nu.rise).imp fun {a b} (z : a.1 < b.1) w => by omega), (fun e he => let z := nu.lt e he; ⟨z.2.2.1, z.2.2.2⟩), by omega, fun r He nbe be => ?_⟩
          have De : He D = some (.dK kvs) := be _ _ (ne_of eDc ebc (by intro z; cases z)) cD.symm eDc
          refine ⟨_, rfl, D, rfl, .inl ⟨kvs, .inl De⟩, _, rfl, kvs, .inl k', kv.2, De, rfl, hv, ?_⟩
          have tpe : Tp Hc He := b2tp sc.nb be
          obtain ⟨i1, i2⟩ := N44.drop_sync k' ekc (prc.tp tpe)
          exact ⟨_, _, _, m, es.filter fun e => decide (e.1 ≠ k'), rfl, (sc.step n0 cD eDc nbe be i1 i2).mono (by omega), fix2 fc sc.nb be De, nu.filter _, Nat.le_trans (List.length_filter_le _ _) (by omega)⟩
        · refine ⟨_, rfl, _, rfl, h, _, _, rfl, sa.hd, by show 700 + 10 * (t : Int) + 1 ≤ 1000000; omega, .inl ⟨M, _, rfl, fa.eM, Mh, (fun z => by have := congrArg List.length z; rw [lm, lM] at this; simp at this), by omega, fun v1 Hc mv1 hc bc => ?_⟩⟩
          have sc := sa.but hbh cD nh' bc hc
          have fc := fixB fa bc (tpB sa.hd bc)
          obtain ⟨n1, mn1, nv1⟩ := fc.nM.mem mv1
          have g1 := gnM n1 mn1
          refine ⟨_, rfl, _, rfl, _, rfl, A, M, xa, xs.drop 12, rfl, rfl, fc.eA, fc.eM, Nat.le_trans (show _ ≤ 100 by omega) (by decide), fun U nU => ?_⟩
          have sU := same_upd nU (o := .lst (xa ++ xs.drop 12))
          have eU : (L2.upd Hc U (.lst (xa ++ xs.drop 12))) U = some (.lst (xa ++ xs.drop 12)) := upd_same
          have sd := sc.same sU
          have fd := fixS fc sU
          have nl := fd.nA.app fd.nM
          have nv1' := nv1.tp (tp_same sU)
          generalize L2.upd Hc U (.lst (xa ++ xs.drop 12)) = Hd at eU sd fd nl nv1' ⊢
          have nll := nl.len
          have gall : ∀ n ∈ w.nms ++ nms.drop 12, An n := fun n hn => (List.mem_append.mp hn).elim (gnA n) (gnM n)
          refine ⟨U, rfl, ⟨_, SqL.of eU⟩, fun G nG => ?_⟩
          refine lc_list (K := K) (a := U) (xs := xa ++ xs.drop 12) (fun i Hj => L2.Same Hd Hj ∧ ∃ zs, Hj G = some (.lst zs) ∧ NmL Hj zs (((w.nms ++ nms.drop 12).take i).filter fun m => decide (m ≠ n1))) ⟨same_upd nG, [], upd_same, .nil⟩ (fun i Hj _ z => SqL.of (z.1 _ _ eU)) ?_ ?_
          · rintro i x Hj hx ⟨sm, zs, eG, nz⟩
            obtain ⟨m1, em1, nm1⟩ := nl.get hx
            have gm := gall _ (List.mem_of_getElem? em1)
            obtain ⟨tm, rfl, etm⟩ := nm1.tp (tp_same sm)
            obtain ⟨tn, rfl, etn⟩ := nv1'.tp (tp_same sm)
            have zl := nz.len
            have fl := List.length_filter_le (fun m : Nm => decide (m ≠ n1)) ((w.nms ++ nms.drop 12).take i)
            have tk : ((w.nms ++ nms.drop 12).take i).length ≤ 40 := by
              rw [List.length_take, List.length_append]
              omega
            refine ⟨rfl, _, rfl, _, rfl, W37.nD m1, W37.nD n1, .tup (SqT.of etm) (.cons (.str _) (.cons (.str _) .nil)), .tup (SqT.of etn) (.cons (.str _) (.cons (.str _) .nil)), gm.sh, g1.sh, _, rfl, ?_⟩
            rw [N44.eqv_nD]
            by_cases e : m1 = n1
            · rw [decide_eq_true e]
              refine iteF ⟨sm, zs, eG, ?_⟩
              rw [List.take_add_one, em1, List.filter_append]
              have : ((some m1).toList.filter fun m : Nm => decide (m ≠ n1)) = [] := by simp [e]
              rw [this, List.append_nil]
              exact nz
            · rw [decide_eq_false e]
              have eDz : zs.length < sizeLine := by
                rw [zl]
                exact Nat.lt_of_le_of_lt (Nat.le_trans fl tk) (by decide)
              have up : Tp Hj (L2.upd Hj G (.lst (zs ++ [.ref tm]))) := tp_upd fun us z => by rw [eG] at z; cases z
              refine iteT ⟨_, rfl, zs, eG, eDz, fun b2 o2 eo => ?_, zs ++ [.ref tm], upd_same, ?_⟩
              · rw [upd_ne (ne_of_none eo nG)]
                exact sm _ _ eo
              · rw [List.take_add_one, em1, List.filter_append]
                have : ((some m1).toList.filter fun m : Nm => decide (m ≠ n1)) = [m1] := by simp [e]
                rw [this]
                exact (nz.tp up).snoc (NmV.tp ⟨tm, rfl, etm⟩ up)
          rintro He ⟨sme, zs, eG, nz⟩
          rw [List.take_of_length_le (by omega)] at nz
          have se := sd.same sme
          have fe := fixS fd sme
          have zl := nz.len
          have fl := List.length_filter_le (fun m : Nm => decide (m ≠ n1)) (w.nms ++ nms.drop 12)
          have al : (w.nms ++ nms.drop 12).length ≤ 40 := by rw [List.length_append]; omega
          have fne : ((w.nms ++ nms.drop 12).filter fun m => decide (m ≠ n1)) ≠ [] := fun z => by
            rw [List.filter_append] at z
            exact other_one ((List.pairwise_map.mp ndM).imp fun {a b} z w => z (congrArg _ w)) (by omega) n1 (List.append_eq_nil_iff.mp z).2
          have nv1e := nv1'.tp (tp_same sme)
          refine ⟨h, _, _, rfl, se.hd, by show 700 + 10 * (t : Int) + 1 + 1 ≤ 1000000; omega, .inl ⟨G, zs, rfl, eG, sd.hd.fresh nG, (fun z => by rw [z] at zl; exact fne (List.eq_nil_of_length_eq_zero zl.symm)), by omega, fun v2 Hk mv2 hk bk => ?_⟩⟩
          have sk := se.but hbh cD nh' bk hk
          have tpk : Tp He Hk := tpB se.hd bk
          have fk := fixB fe bk tpk
          obtain ⟨n2, mn2, nv2⟩ := (nz.tp tpk).mem mv2
          have nv1k := nv1e.tp tpk
          obtain ⟨mn2', n21⟩ := List.mem_filter.mp mn2
          have n21 : n2 ≠ n1 := of_decide_eq_true n21
          have g2 := gall n2 mn2'
          clear nv1e nv1' nz
          refine ⟨_, rfl, _, rfl, (by show 2 ≤ sizeLine; decide), fun tt nt => ?_⟩
          have st := same_upd nt (o := .tup [v1, v2])
          have et : (L2.upd Hk tt (.tup [v1, v2])) tt = some (.tup [v1, v2]) := upd_same
          have sl := sk.same st
          have fl2 := fixS fk st
          have nv1l := nv1k.tp (tp_same st)
          have nv2l := nv2.tp (tp_same st)
          generalize L2.upd Hk tt (.tup [v1, v2]) = Hl at et sl fl2 nv1l nv2l ⊢
          obtain ⟨kvs, eDl, ekl, prl⟩ := sl.td
          obtain ⟨dx0, l0, g0, kv0, ebl, _⟩ := sl.nb.ex
          have kl := congrArg List.length ekl
          rw [List.length_map, List.length_map] at kl
          refine ⟨_, rfl, _, rfl, b, dx0, _, rfl, ebl, fs_no _ _ _ _ (by decide +kernel) (by decide +kernel) (by decide +kernel) (by decide +kernel), _, rfl, _, rfl, _, b, c, v1, v2, m, es, n1, n2, rfl, sl.nb, nv1l, nv2l, g1, g2, n21.symm, (fun e he => (nu.lt e he).2.1), by omega, fun Hm nbm bm => ?_⟩
          have Dm : Hm D = some (.dK kvs) := bm _ _ (ne_of eDl ebl (by intro z; cases z)) cD.symm eDl
          have tpm : Tp Hl Hm := b2tp sl.nb bm
          have new : valV kvs (.inl m) = none := by
            cases e : valV kvs (.inl m) with
            | none => rfl
            | some w0 =>
              have h := valV_in e
              rw [ekl] at h
              obtain ⟨z, hz, e2⟩ := List.mem_map.mp h
              have := Sum.inl.inj e2
              have := (nu.lt z hz).2.1
              omega
          refine ⟨D, _, rfl, DPut.k (k := .inl m) Dm (Nat.lt_of_le_of_lt (show kvs.length ≤ 100 by omega) (by decide)), ?_⟩
          rw [putK_new _ new]
          have ss := sl.step (m' := m + 1) (es' := es ++ [((m, (n1, n2)) : Te)]) (kvs' := kvs ++ [(.inl m, .ref tt)]) n0 cD eDl nbm bm (by rw [List.map_append, List.map_append, ekl]; rfl) (by
            rw [List.map_append, List.map_append]
            exact (prl.tp tpm).app (.cons (p := (n1, n2)) (tpm _ _ et) (nv1l.tp tpm) (nv2l.tp tpm) .nil))
          exact ⟨_, _, _, m + 1, es ++ [((m, (n1, n2)) : Te)], rfl, ss.mono (by omega), fix2 fl2 sl.nb bm Dm, nu.snoc g1 g2, by rw [List.length_append]; show es.length + 1 ≤ t + 1; omega⟩
      · refine ⟨_, rfl, _, rfl, h, _, _, rfl, sa.hd, by show 700 + 10 * (t : Int) + 1 ≤ 1000000; omega, .inl ⟨M, _, rfl, fa.eM, Mh, (fun z => by have := congrArg List.length z; rw [lm, lM] at this; simp at this), by omega, fun v1 Hc mv1 hc bc => ?_⟩⟩
        have sc := sa.but hbh cD nh' bc hc
        have fc := fixB fa bc (tpB sa.hd bc)
        obtain ⟨n1, mn1, nv1⟩ := fc.nM.mem mv1
        have g1 := gnM n1 mn1
        refine ⟨_, rfl, _, rfl, _, rfl, A, M, xa, xs.drop 12, rfl, rfl, fc.eA, fc.eM, Nat.le_trans (show _ ≤ 100 by omega) (by decide), fun U nU => ?_⟩
        have sU := same_upd nU (o := .lst (xa ++ xs.drop 12))
        have eU : (L2.upd Hc U (.lst (xa ++ xs.drop 12))) U = some (.lst (xa ++ xs.drop 12)) := upd_same
        have sd := sc.same sU
        have fd := fixS fc sU
        have nl := fd.nA.app fd.nM
        have nv1' := nv1.tp (tp_same sU)
        generalize L2.upd Hc U (.lst (xa ++ xs.drop 12)) = Hd at eU sd fd nl nv1' ⊢
        have nll := nl.len
        have gall : ∀ n ∈ w.nms ++ nms.drop 12, An n := fun n hn => (List.mem_append.mp hn).elim (gnA n) (gnM n)
        refine ⟨U, rfl, ⟨_, SqL.of eU⟩, fun G nG => ?_⟩
        refine lc_list (K := K) (a := U) (xs := xa ++ xs.drop 12) (fun i Hj => L2.Same Hd Hj ∧ ∃ zs, Hj G = some (.lst zs) ∧ NmL Hj zs (((w.nms ++ nms.drop 12).take i).filter fun m => decide (m ≠ n1))) ⟨same_upd nG, [], upd_same, .nil⟩ (fun i Hj _ z => SqL.of (z.1 _ _ eU)) ?_ ?_
        · rintro i x Hj hx ⟨sm, zs, eG, nz⟩
          obtain ⟨m1, em1, nm1⟩ := nl.get hx
          have gm := gall _ (List.mem_of_getElem? em1)
          obtain ⟨tm, rfl, etm⟩ := nm1.tp (tp_same sm)
          obtain ⟨tn, rfl, etn⟩ := nv1'.tp (tp_same sm)
          have zl := nz.len
          have fl := List.length_filter_le (fun m : Nm => decide (m ≠ n1)) ((w.nms ++ nms.drop 12).take i)
          have tk : ((w.nms ++ nms.drop 12).take i).length ≤ 40 := by
            rw [List.length_take, List.length_append]
            omega
          refine ⟨rfl, _, rfl, _, rfl, W37.nD m1, W37.nD n1, .tup (SqT.of etm) (.cons (.str _) (.cons (.str _) .nil)), .tup (SqT.of etn) (.cons (.str _) (.cons (.str _) .nil)), gm.sh, g1.sh, _, rfl, ?_⟩
          rw [N44.eqv_nD]
          by_cases e : m1 = n1
          · rw [decide_eq_true e]
            refine iteF ⟨sm, zs, eG, ?_⟩
            rw [List.take_add_one, em1, List.filter_append]
            have : ((some m1).toList.filter fun m : Nm => decide (m ≠ n1)) = [] := by simp [e]
            rw [this, List.append_nil]
            exact nz
          · rw [decide_eq_false e]
            have eDz : zs.length < sizeLine := by
              rw [zl]
              exact Nat.lt_of_le_of_lt (Nat.le_trans fl tk) (by decide)
            have up : Tp Hj (L2.upd Hj G (.lst (zs ++ [.ref tm]))) := tp_upd fun us z => by rw [eG] at z; cases z
            refine iteT ⟨_, rfl, zs, eG, eDz, fun b2 o2 eo => ?_, zs ++ [.ref tm], upd_same, ?_⟩
            · rw [upd_ne (ne_of_none eo nG)]
              exact sm _ _ eo
            · rw [List.take_add_one, em1, List.filter_append]
              have : ((some m1).toList.filter fun m : Nm => decide (m ≠ n1)) = [m1] := by simp [e]
              rw [this]
              exact (nz.tp up).snoc (NmV.tp ⟨tm, rfl, etm⟩ up)
        rintro He ⟨sme, zs, eG, nz⟩
        rw [List.take_of_length_le (by omega)] at nz
        have se := sd.same sme
        have fe := fixS fd sme
        have zl := nz.len
        have fl := List.length_filter_le (fun m : Nm => decide (m ≠ n1)) (w.nms ++ nms.drop 12)
        have al : (w.nms ++ nms.drop 12).length ≤ 40 := by rw [List.length_append]; omega
        have fne : ((w.nms ++ nms.drop 12).filter fun m => decide (m ≠ n1)) ≠ [] := fun z => by
          rw [List.filter_append] at z
          exact other_one ((List.pairwise_map.mp ndM).imp fun {a b} z w => z (congrArg _ w)) (by omega) n1 (List.append_eq_nil_iff.mp z).2
        have nv1e := nv1'.tp (tp_same sme)
        refine ⟨h, _, _, rfl, se.hd, by show 700 + 10 * (t : Int) + 1 + 1 ≤ 1000000; omega, .inl ⟨G, zs, rfl, eG, sd.hd.fresh nG, (fun z => by rw [z] at zl; exact fne (List.eq_nil_of_length_eq_zero zl.symm)), by omega, fun v2 Hk mv2 hk bk => ?_⟩⟩
        have sk := se.but hbh cD nh' bk hk
        have tpk : Tp He Hk := tpB se.hd bk
        have fk := fixB fe bk tpk
        obtain ⟨n2, mn2, nv2⟩ := (nz.tp tpk).mem mv2
        have nv1k := nv1e.tp tpk
        obtain ⟨mn2', n21⟩ := List.mem_filter.mp mn2
        have n21 : n2 ≠ n1 := of_decide_eq_true n21
        have g2 := gall n2 mn2'
        clear nv1e nv1' nz
        refine ⟨_, rfl, _, rfl, (by show 2 ≤ sizeLine; decide), fun tt nt => ?_⟩
        have st := same_upd nt (o := .tup [v1, v2])
        have et : (L2.upd Hk tt (.tup [v1, v2])) tt = some (.tup [v1, v2]) := upd_same
        have sl := sk.same st
        have fl2 := fixS fk st
        have nv1l := nv1k.tp (tp_same st)
        have nv2l := nv2.tp (tp_same st)
        generalize L2.upd Hk tt (.tup [v1, v2]) = Hl at et sl fl2 nv1l nv2l ⊢
        obtain ⟨kvs, eDl, ekl, prl⟩ := sl.td
        obtain ⟨dx0, l0, g0, kv0, ebl, _⟩ := sl.nb.ex
        have kl := congrArg List.length ekl
        rw [List.length_map, List.length_map] at kl
        refine ⟨_, rfl, _, rfl, b, dx0, _, rfl, ebl, fs_no _ _ _ _ (by decide +kernel) (by decide +kernel) (by decide +kernel) (by decide +kernel), _, rfl, _, rfl, _, b, c, v1, v2, m, es, n1, n2, rfl, sl.nb, nv1l, nv2l, g1, g2, n21.symm, (fun e he => (nu.lt e he).2.1), by omega, fun Hm nbm bm => ?_⟩
        have Dm : Hm D = some (.dK kvs) := bm _ _ (ne_of eDl ebl (by intro z; cases z)) cD.symm eDl
        have tpm : Tp Hl Hm := b2tp sl.nb bm
        have new : valV kvs (.inl m) = none := by
          cases e : valV kvs (.inl m) with
          | none => rfl
          | some w0 =>
            have h := valV_in e
            rw [ekl] at h
            obtain ⟨z, hz, e2⟩ := List.mem_map.mp h
            have := Sum.inl.inj e2
            have := (nu.lt z hz).2.1
            omega
        refine ⟨D, _, rfl, DPut.k (k := .inl m) Dm (Nat.lt_of_le_of_lt (show kvs.length ≤ 100 by omega) (by decide)), ?_⟩
        rw [putK_new _ new]
        have ss := sl.step (m' := m + 1) (es' := es ++ [((m, (n1, n2)) : Te)]) (kvs' := kvs ++ [(.inl m, .ref tt)]) n0 cD eDl nbm bm (by rw [List.map_append, List.map_append, ekl]; rfl) (by
          rw [List.map_append, List.map_append]
          exact (prl.tp tpm).app (.cons (p := (n1, n2)) (tpm _ _ et) (nv1l.tp tpm) (nv2l.tp tpm) .nil))
        exact ⟨_, _, _, m + 1, es ++ [((m, (n1, n2)) : Te)], rfl, ss.mono (by omega), fix2 fl2 sl.nb bm Dm, nu.snoc g1 g2, by rw [List.length_append]; show es.length + 1 ≤ t + 1; omega⟩
    rintro σ He ⟨c11, c12, c13, m', es', rfl, se, fe, nu', le'⟩
    clear sx fx nu le
    obtain ⟨kvs, eDe, eke, pre⟩ := se.td
    have kl := congrArg List.length eke
    rw [List.length_map, List.length_map] at kl
    refine ⟨_, rfl, D, kvs, es'.map (·.1), rfl, .inl eDe, by rw [eke, List.map_map]; rfl, by rw [List.length_map]; omega, fun ys p pm sy np => ?_⟩
    obtain rfl := int_sorted pm sy nu'.rise
    have sp := same_upd np (o := .lst ((es'.map (·.1)).map V.int))
    have ep : (L2.upd He p (.lst ((es'.map (·.1)).map V.int))) p = some (.lst ((es'.map (·.1)).map V.int)) := upd_same
    have se2 := se.same sp
    have fe2 := fixS fe sp
    have pre2 := pre.tp (tp_same sp)
    have eDe2 := sp _ _ eDe
    generalize L2.upd He p (.lst ((es'.map (·.1)).map V.int)) = He2 at ep se2 fe2 pre2 eDe2 ⊢
    clear se fe pre eDe sp np pm sy
    refine ⟨p, rfl, ⟨_, SqL.of ep⟩, fun L nL => ?_⟩
    refine lc_list (K := K) (a := p) (xs := (es'.map (·.1)).map V.int) (fun i Hj => L2.Same He2 Hj ∧ Hj L = some (.lst ((kvs.take i).map (·.2)))) ⟨same_upd nL, upd_same⟩ (fun i Hj _ z => SqL.of (z.1 _ _ ep)) ?_ ?_
    · rintro i x Hj hx ⟨sm, eL⟩
      rw [List.getElem?_map] at hx
      obtain ⟨k1, hk1, rfl⟩ := Option.map_eq_some_iff.mp hx
      rw [List.getElem?_map] at hk1
      obtain ⟨e1, he1, rfl⟩ := Option.map_eq_some_iff.mp hk1
      obtain ⟨kv, hkv, hv⟩ := told_get eke nu'.rise he1
      have il := (List.getElem?_eq_some_iff.mp he1).1
      refine ⟨rfl, ?_⟩
      unfold tYes
      refine iteT ⟨_, rfl, _, rfl, D, kv.2, rfl, (by rw [← hv]; exact DGet.k (k := .inl e1.1) (sm _ _ eDe2)), _, eL, ?_, fun x o e => ?_, ?_⟩
      · rw [List.length_map, List.length_take]
        exact Nat.lt_of_le_of_lt (show min i kvs.length ≤ 100 by omega) (by decide)
      · rw [upd_ne (ne_of_none e nL)]
        exact sm _ _ e
      · rw [upd_same, List.take_add_one, hkv, List.map_append]
        rfl
    rintro Hf ⟨sf, eL⟩
    rw [List.length_map, List.length_map, ← kl, List.take_length] at eL
    have sF := se2.same sf
    have fF := fixS fe2 sf
    have pF := pre2.tp (tp_same sf)
    clear se2 fe2 pre2 eDe2 ep sf
    obtain ⟨hs, eRh⟩ : ∃ ys, Hf R = some (.lst ys) := ⟨_, fF.eR⟩
    refine ⟨_, rfl, R, rfl, ⟨_, SqL.of fF.eR⟩, fun G nG => ?_⟩
    refine lc_list (K := K) (a := R) (xs := [.ref T1, .ref T2]) (fun i Hj => LamX.ExtN Hf Hj ∧ LamX.Tabs (Tb pB) Hj ∧ Hj G = some (.lst ((List.replicate i true).map V.bl))) ⟨LamX.ExtN.of (same_upd nG), sF.tb.ext (same_upd nG), upd_same⟩ (fun i Hj _ z => SqL.of (exL z.1 fF.eR)) ?_ ?_
    · rintro i x Hj hx ⟨xj, tj, eGj⟩
      have il : i < 2 := (List.getElem?_eq_some_iff.mp hx).1
      have sj := sF.ext cD xj tj
      have fj := fF.keep (fun x ys _ e => exL xj e) (exTp xj)
      have fin : ∀ Hk, LamX.ExtN Hj Hk → LamX.Tabs (Tb pB) Hk → ∃ acc, Hk G = some (.lst acc) ∧ acc.length < sizeLine ∧ (LamX.ExtN Hf (upd Hk G (.lst (acc ++ [.bl true]))) ∧ LamX.Tabs (Tb pB) (upd Hk G (.lst (acc ++ [.bl true]))) ∧ (upd Hk G (.lst (acc ++ [.bl true]))) G = some (.lst ((List.replicate (i + 1) true).map V.bl))) := fun Hk xk tk => by
        have eGk := exL xk eGj
        refine ⟨_, eGk, ?_, fun y o e nt => ?_, tabs_ls2 tk eGk, ?_⟩
        · rw [List.length_map, List.length_replicate]
          exact Nat.lt_of_le_of_lt (show i ≤ 2 by omega) (by decide)
        · rw [upd_ne (ne_of_none e nG)]
          exact xk y o (xj y o e nt) nt
        · rw [upd_same, List.replicate_succ', List.map_append]
          rfl
      refine ⟨rfl, ?_⟩
      unfold tYes
      refine iteT ⟨_, rfl, _, rfl, _, rfl, _, rfl, ?_⟩
      have at1 : ∀ m, some m ∈ ts1 → An m := fun m h => (mem1 m h).elim (fun z => (List.mem_append.mp z).elim (gnA m) (gnM m)) (gnM m)
      have at2 : ∀ m, some m ∈ ts2 → An m := fun m h => (mem2 m h).elim (gnM m) (gnA m)
      match i, hx, fin with
      | 0, hx, fin =>
        obtain rfl : V.ref T1 = x := Option.some.inj hx
        exact ⟨v, T1, L, .ref b, x1, _, w, ts1, es'.map (·.2), rfl, fj.wk, wd, by omega, gnA, fj.e1, fj.l1, len1, at1, nb_ora sj.nb nu'.an, exL xj eL, pF.tp (exTp xj), nu'.an, by rw [List.length_map]; omega, tj, fin⟩
      | 1, hx, fin =>
        obtain rfl : V.ref T2 = x := Option.some.inj hx
        exact ⟨v, T2, L, .ref b, x2, _, w, ts2, es'.map (·.2), rfl, fj.wk, wd, by omega, gnA, fj.e2, fj.l2, len2, at2, nb_ora sj.nb nu'.an, exL xj eL, pF.tp (exTp xj), nu'.an, by rw [List.length_map]; omega, tj, fin⟩
    rintro Hg ⟨xg, tg, eGg⟩
    refine ⟨G, [true, true], rfl, SqL.of eGg, _, rfl, iteF ?_⟩
    exact ⟨_, _, _, _, _, _, _, m', es', rfl, sF.ext cD xg tg, fF.keep (fun x ys _ e => exL xg e) (exTp xg), nu', le'⟩
end
end K44
set_option Elab.async false
set_option linter.all false
set_option maxRecDepth 100000
set_option maxHeartbeats 4000000
set_option pp.maxSteps 400
set_option pp.deepTerms false
namespace K44
open PySem PySem.Spec PyProof.Rows L2
/-! ## the law's end with one table of code objects -/
theorem law_goT {P : Program} {w : World} {K : PySem.W.Frag} {mg mb : Str → Option Value} {k : Nat} {fa a cB pB : Addr} {fd : FuncData} {x : Str} {sp : Sp} {z : Shared} {vs : List Value} {ns : List Int}
    (kin : K.In z.heap) (nsG : z.heap.Ns mainGlobals mg) (nsB : z.heap.Ns builtinsNs mb) (same : ∀ y : Str, y ≠ "__name__" → mb y = bootBuiltins y) (lim : z.heap.NoLimit) (dig : z.heap.NoDigits) (no : z.gens = #[])
    (hC : PySem.W.CodeHd z.heap cB pB) (hP : z.heap.get? pB = some (PySem.W.tabObj #[])) (nP : K.lookup pB = none)
    (bmain : ∃ (bm : Addr) (ob : Obj), mg "__builtins__" = some (.ref bm) ∧ bm ≠ builtinsNs ∧ z.heap.get? bm = some ob ∧ ob.cls = .type "module" ∧ ob.dict = some builtinsNs ∧ ob.data = .plain)
    (at_ : z.heap.get? a = some { cls := .type "list", data := .seq vs.toArray }) (intsA : IntsAre vs ns) (many : ns.length ≤ sizeLine) (room : Room k callerA)
    (F : ∀ base : Heap, K.In base → base.Ns mainGlobals mg → base.NoDigits → LamX.TabB base mg cB pB → Gn P w K mg base k fa fd [x] sp) (bind : ∀ (s : Shared) (u : Value), BindsTo s fd ⟨[u], []⟩ [(x, u)])
    (hsp : ∀ H : Hp, H pB = some (.tbl #[]) → SqL K H a (ns.map V.int) → sp [.ref a] H (fun v _ => v = .bl true) fun _ _ _ => False) :
    codeAny (model P w) callerA (.call (.ref fa) ⟨[.ref a], []⟩) (fun r s' => r = .ok (.ret (.bool true)) ∧ OldK z.heap s'.heap ∧ s'.os = z.os ∧ AllBare s'.gens) z := by
  have rv : Vals (ns.map V.int) vs := vals_ints intsA
  have sz : (ns.map V.int).length ≤ sizeLine := by rw [List.length_map]; exact many
  let u : HO := .frz { cls := .type "list", data := .seq vs.toArray } (.lst (ns.map V.int))
  let H : Hp := fun b => if b = pB then some (.tbl #[]) else if b = a ∧ K.lookup a = none then some u else none
  have apart : a ≠ pB := fun e => by
    rw [e, hP] at at_
    cases at_
  have Ht : H pB = some (.tbl #[]) := if_pos rfl
  have Ho : ∀ b, b ≠ pB → H b = if b = a ∧ K.lookup a = none then some u else none := fun b n => if_neg n
  have only : ∀ b o, b ≠ pB → H b = some o → b = a ∧ K.lookup a = none ∧ o = u := fun b o n e => by
    rw [Ho b n] at e
    by_cases c : b = a ∧ K.lookup a = none
    · rw [if_pos c] at e
      exact ⟨c.1, c.2, (Option.some.inj e).symm⟩
    · rw [if_neg c] at e
      cases e
  have sq : SqL K H a (ns.map V.int) := by
    cases hk : K.lookup a with
    | none => exact .inl (.inr ⟨_, (Ho a apart).trans (if_pos ⟨rfl, hk⟩)⟩)
    | some o =>
      have e := kin a o hk
      rw [at_] at e
      cases e
      exact .inr ⟨_, vs.toArray, _, hk, rfl, rfl, rfl, by rw [List.size_toArray, ← rv.length]; exact sz, by simpa using rv⟩
  have hok : HOk P w H z.heap := fun b o e => by
    by_cases c : b = pB
    · subst c
      rw [Ht] at e
      cases e
      exact hP
    · obtain ⟨rfl, _, rfl⟩ := only b o c e
      exact ⟨at_, sz, vs, _, rv, at_⟩
  have clear : ∀ {b : Addr} {o : Obj}, z.heap.get? b = some o → (∀ xs n, o.data ≠ .seq xs n) → o.data ≠ .fields #[] → H b = none := fun {b o} e d1 d2 => by
    cases q : H b with
    | none => rfl
    | some v =>
      by_cases c : b = pB
      · rw [c, hP] at e
        cases e
        exact absurd rfl d2
      · obtain ⟨rfl, _, _⟩ := only b v c q
        rw [at_] at e
        cases e
        exact absurd rfl (d1 _ _)
  have nsK : ∀ {b : Addr} {m : Str → Option Value}, z.heap.Ns b m → (hidT z.heap H).Ns b m := fun {b m} q => by
    obtain ⟨o, es, ep, e, d, r⟩ := q
    exact ⟨o, es, ep, hidT_get e (clear e (fun _ _ y => by rw [d] at y; cases y) fun y => by rw [d] at y; cases y), d, r⟩
  have kb : K.In (hidT z.heap H) := fun b o e => by
    refine hidT_get (kin b o e) ?_
    cases q : H b with
    | none => rfl
    | some v =>
      by_cases c : b = pB
      · rw [c, nP] at e
        cases e
      · obtain ⟨rfl, n, _⟩ := only b v c q
        rw [n] at e
        cases e
  have limB : (hidT z.heap H).NoLimit := by
    obtain ⟨mc, h1, h2⟩ := lim
    exact ⟨mc, nsK h1, h2⟩
  have digB : (hidT z.heap H).NoDigits := by
    obtain ⟨mc, h1, h2⟩ := dig
    exact ⟨mc, nsK h1, h2⟩
  have tb : LamX.TabB (hidT z.heap H) mg cB pB := by
    refine ⟨?_, ?_, fun e => ?_⟩
    · obtain ⟨o, us, f1, f2, f3, f4, f5, f6, f7, e, r1, r2, r3, r⟩ := hC
      refine ⟨o, us, f1, f2, f3, f4, f5, f6, f7, hidT_get e (clear e (fun _ _ y => ?_) fun y => ?_), r1, r2, r3, r⟩
      · rw [r2] at y; cases y
      · rw [r2] at y
        cases y
        simp at r3
    · obtain ⟨bm, ob, b1, b2, b3, b4, b5, b6⟩ := bmain
      refine ⟨bm, ob, b1, b2, fun y => ?_, fun y => ?_, hidT_get b3 (clear b3 (fun _ _ y => ?_) fun y => ?_), b4, b5, b6⟩
      · obtain ⟨o, es, ep, e, d, _⟩ := nsG
        rw [y, e] at b3
        cases b3
        rw [d] at b6
        cases b6
      · rw [y, hP] at b3
        cases b3
        cases b6
      · rw [b6] at y; cases y
      · rw [b6] at y; cases y
    · obtain ⟨o, es, ep, e', d, _⟩ := nsG
      rw [e, hP] at e'
      cases e'
      cases d
  have en : Env0 P w K mg (hidT z.heap H) callerA [] z H :=
    ⟨rfl, ⟨kb, nsK nsG, ⟨mb, nsK nsB, same⟩, limB⟩, fun _ _ e => of_hidT e, Nat.le_of_eq (hidT_size _ _), trivial, (fun b hb => absurd (show b ∈ ([] : List Addr) from hb) List.not_mem_nil), hok, .of_eq no⟩
  refine codeAny_mono ((F _ kb (nsK nsG) digB tb).go callerA [] z H ⟨[.ref a], []⟩ [.ref a] [.ref a] _ _ rfl room en (bind z (.ref a)) (.cons rfl .nil) (hsp H Ht sq)) fun r s' h => ?_
  match r, h with
  | .error e, h => exact False.elim h
  | .ok .next, h => exact False.elim h
  | .ok .brk, h => exact False.elim h
  | .ok .cont, h => exact False.elim h
  | .ok (.ret y), h =>
    obtain ⟨v, H', os, bare, un, hok', r', q⟩ := h
    obtain rfl : v = .bl true := q
    obtain rfl : y = Value.bool true := r'
    have stay : ∀ b o, b ≠ pB → z.heap.get? b = some o → s'.heap.get? b = some o := fun b o n e => by
      cases q : H b with
      | none => exact un.keep b o e q (fun y => by cases y) (fun y => by cases y)
      | some v =>
        obtain ⟨rfl, _, rfl⟩ := only b v n q
        have e2 := (hok' _ _ (un.frzs _ _ _ q)).1
        rw [at_] at e
        cases e
        exact e2
    obtain ⟨more, hm⟩ := un.tbls pB #[] Ht
    have grown := hok' pB _ hm
    refine ⟨rfl, ⟨fun b o e => ?_, fun b o e => ?_⟩, os, bare⟩
    · by_cases c : b = pB
      · subst c
        rw [hP] at e
        cases e
        refine .inr (.inl ⟨(hC.tab hP).isCodeTable, rfl, #[], more, rfl, ?_⟩)
        exact grown
      · exact .inl (stay b o c e)
    · by_cases c : b = pB
      · subst c
        exact ⟨_, grown⟩
      · exact ⟨o, stay b o c e⟩
theorem walk_goT {l : PySem.W.OpenLaw} {n k : Nat} {q : Program} {loose : List Str} {XP : (Str → Option Value) → Heap → Prop} {YP : World → Heap → Prop} {d : DefRec} {K : Params → PySem.W.Frag} {sp : Addr → PySem.W.Frag → Sp} {x : Str} {ts : List Addr}
    (most : l.most = some n) (small : n ≤ sizeLine) (nodef : d.params.defaults = []) (room : Room k callerA) (hY : ∀ (w : World) (h : Heap), YP w h → (K w.params).In h ∧ ∀ P ∈ ts, h.get? P = some (PySem.W.tabObj #[]))
    (F : ∀ (w : World) (mg : Str → Option Value) (fa : Addr) (h : Heap), (K w.params).In h → h.Ns mainGlobals mg → mg d.name = some (.ref fa) →
      ∃ (cB pB : Addr) (fd : FuncData), pB ∈ ts ∧ PySem.W.codeHdIn (K w.params) cB pB = true ∧ (K w.params).lookup pB = none ∧ (∀ (s : Shared) (u : Value), BindsTo s fd ⟨[u], []⟩ [(x, u)]) ∧
        (∀ (H : Hp) (a : Addr) (ns : List Int), ns.length ≤ n → H pB = some (.tbl #[]) → SqL (K w.params) H a (ns.map V.int) → sp pB (K w.params) [.ref a] H (fun v _ => v = .bl true) fun _ _ _ => False) ∧
        ∀ base : Heap, (K w.params).In base → base.Ns mainGlobals mg → base.NoDigits → LamX.TabB base mg cB pB → Gn l.prog w (K w.params) mg base k fa fd [x] (sp pB (K w.params))) :
    PySem.W.WalkO q loose XP YP l.row.toRowW d [] (fun f vs => PySem.call f vs) := by
  refine Att.attach_call most nodef fun w s₀ s₁ mg mb fa o pm cd doc a vs ns G Y _ _ _ hmg hobj hints hlen hg => ?_
  obtain ⟨kin, tabs⟩ := hY w _ Y
  obtain ⟨cB, pB, fd, mem, hc, nP, hb, hsp, hF⟩ := F w mg fa _ kin G.T.g hmg
  exact law_goT kin G.T.g G.T.b G.T.builtins G.T.nolimit G.T.nodigits hg (PySem.W.codeHd_of_K kin hc) (tabs pB mem) nP G.T.bmain hobj hints (Nat.le_trans hlen small) room hF hb fun H hH hS => hsp H a ns hlen hH hS
end K44
set_option Elab.async false
set_option linter.all false
set_option maxRecDepth 100000
set_option maxHeartbeats 4000000
set_option pp.maxSteps 400
set_option pp.deepTerms false
namespace K44
open PySem PySem.Spec PyProof.Rows L2
open Xk Az W37
theorem so_ca {P : Program} {w : World} {K : PySem.W.Frag} {mg : Str → Option Value} {base : Heap} {C f : Addr} {fd : FuncData} (F : FunD K "span_of" "span_of" (defArgs sSpanOf) (defBody sSpanOf) (defScope sSpanOf) [.non] [] f fd) (mgf : mg "span_of" = some (.ref f))
    (ok : FnOk P w K mg base CX0 7 f fd ["work", "name", "names"] (spSO C)) : Ca P w K mg base 7 "span_of" ["work", "name", "names"] (spSO C) := by
  obtain ⟨ds, r, b⟩ := F.binds1 (ps := ["work", "name", "names"]) 3 1 (by simp) rfl fun T kV doc pm an cdv ct us its h1 h2 => by
    match us, its, h1, h2 with
    | [_, _, _], [_], _, _ => exact ⟨_, rfl, rfl⟩
  cases r
  exact ⟨f, fd, ok, mgf, F.kp, b⟩
theorem wi_ca {P : Program} {w : World} {K : PySem.W.Frag} {mg : Str → Option Value} {base : Heap} {f : Addr} {fd : FuncData} (D : Df K mg "is_within" ["thing", "least", "most"] sIsWithin f fd)
    (ok : FnOk P w K mg base CX0 2 f fd ["thing", "least", "most"] (spWithin K)) : N44.Ca P w K mg base 2 "is_within" ["thing", "least", "most"] N44.spWiI :=
  ⟨f, fd, ok.imp fun vs H Q E h => by
    obtain ⟨n, a, b, rfl, q⟩ := h
    refine ⟨.int n, .int n, a, b, rfl, .int n, ?_⟩
    have e : wiV (.int n) a b = decide (a ≤ n ∧ n ≤ b) := by
      unfold wiV
      rw [Bool.decide_and]
    rw [e]
    exact q, D.mgf, D.fn.kp, D.bd⟩
theorem all_mk {l : PySem.W.OpenLaw} {w : World} {K : PySem.W.Frag} {h : Heap} {mg : Str → Option Value} {ts : List Addr} {cB pB fa cNames f0 f1 f2 f3 f4 t4 f5 f6 f7 f8 f9 f10 t10 f11 f12 t12 f13 t13 f14 f15 f16 f17 f18 f19 f20 f21 f22 f23 f24 f25 f26 f27 f28 f29 f30 f31 f32 f33 f34 f35 f36 f37 f38 f39 f40 f41 : Addr}
    {od0 an0 od1 an1 od2 an2 od3 an3 od4 an4 odT4 od5 an5 od6 an6 od7 an7 od8 an8 od9 an9 od10 an10 odT10 od11 an11 od12 an12 odT12 od13 an13 odT13 od14 an14 od15 an15 od16 an16 od17 an17 od18 an18 od19 an19 od20 an20 od21 an21 od22 an22 od23 an23 od24 an24 od25 an25 od26 an26 od27 an27 od28 an28 od29 an29 od30 an30 od31 an31 od32 an32 od33 an33 od34 an34 od35 an35 od36 an36 od37 an37 od38 an38 od39 an39 od40 an40 od41 an41 : Option Addr}
    {sl0 sl1 sl2 sl3 sl4 slT4 sl5 sl6 sl7 sl8 sl9 sl10 slT10 sl11 sl12 slT12 sl13 slT13 sl14 sl15 sl16 sl17 sl18 sl19 sl20 sl21 sl22 sl23 sl24 sl25 sl26 sl27 sl28 sl29 sl30 sl31 sl32 sl33 sl34 sl35 sl36 sl37 sl38 sl39 sl40 sl41 : Array (Option Value)}
    {oc0 kV0 dc0 pm0 cd0 ct0 oc1 kV1 dc1 pm1 cd1 ct1 oc2 kV2 dc2 pm2 cd2 ct2 oc3 kV3 dc3 pm3 cd3 ct3 oc4 kV4 dc4 pm4 cd4 ct4 ocT4 oc5 kV5 dc5 pm5 cd5 ct5 oc6 kV6 dc6 pm6 cd6 ct6 oc7 kV7 dc7 pm7 cd7 ct7 oc8 kV8 dc8 pm8 cd8 ct8 oc9 kV9 dc9 pm9 cd9 ct9 oc10 kV10 dc10 pm10 cd10 ct10 ocT10 oc11 kV11 dc11 pm11 cd11 ct11 oc12 kV12 dc12 pm12 cd12 ct12 ocT12 oc13 kV13 dc13 pm13 cd13 ct13 ocT13 oc14 kV14 dc14 pm14 cd14 ct14 oc15 kV15 dc15 pm15 cd15 ct15 oc16 kV16 dc16 pm16 cd16 ct16 oc17 kV17 dc17 pm17 cd17 ct17 oc18 kV18 dc18 pm18 cd18 ct18 oc19 kV19 dc19 pm19 cd19 ct19 oc20 kV20 dc20 pm20 cd20 ct20 oc21 kV21 dc21 pm21 cd21 ct21 oc22 kV22 dc22 pm22 cd22 ct22 oc23 kV23 dc23 pm23 cd23 ct23 oc24 kV24 dc24 pm24 cd24 ct24 oc25 kV25 dc25 pm25 cd25 ct25 oc26 kV26 dc26 pm26 cd26 ct26 oc27 kV27 dc27 pm27 cd27 ct27 oc28 kV28 dc28 pm28 cd28 ct28 oc29 kV29 dc29 pm29 cd29 ct29 oc30 kV30 dc30 pm30 cd30 ct30 oc31 kV31 dc31 pm31 cd31 ct31 oc32 kV32 dc32 pm32 cd32 ct32 oc33 kV33 dc33 pm33 cd33 ct33 oc34 kV34 dc34 pm34 cd34 ct34 oc35 kV35 dc35 pm35 cd35 ct35 oc36 kV36 dc36 pm36 cd36 ct36 oc37 kV37 dc37 pm37 cd37 ct37 oc38 kV38 dc38 pm38 cd38 ct38 oc39 kV39 dc39 pm39 cd39 ct39 oc40 kV40 dc40 pm40 cd40 ct40 oc41 kV41 dc41 pm41 cd41 ct41 : Value}
    {nT4 nT10 nT12 nT13 : Nat}
    {u_SMALL_LETTERS u_TEXT_SIGNS u_SHORTEST_TONGUE u_LONGEST_TONGUE u_LONGEST_TEXT : Tok}
    (X : K.In h) (G : h.Ns mainGlobals mg) (hfa : mg "law" = some (.ref fa))
    (a_Names : PySem.W.nsIn K mainGlobals "Names" = some (some (.ref cNames)))
    (a0 : PySem.W.nsIn K mainGlobals "is_whole" = some (some (.ref f0)))
    (l0 : K.lookup f0 = some ⟨oc0, od0, .func (PySem.W.fnOf "is_whole" "is_whole" (defArgs sIsWhole) (defBody sIsWhole) (defScope sIsWhole) .none kV0 dc0 pm0 an0 cd0 ct0), sl0⟩)
    (c0 : PySem.W.codeIn K cd0 "is_whole" = true)
    (k0 : PySem.W.keepIn K (.ref f0) = true)
    (a1 : PySem.W.nsIn K mainGlobals "is_within" = some (some (.ref f1)))
    (l1 : K.lookup f1 = some ⟨oc1, od1, .func (PySem.W.fnOf "is_within" "is_within" (defArgs sIsWithin) (defBody sIsWithin) (defScope sIsWithin) .none kV1 dc1 pm1 an1 cd1 ct1), sl1⟩)
    (c1 : PySem.W.codeIn K cd1 "is_within" = true)
    (k1 : PySem.W.keepIn K (.ref f1) = true)
    (a2 : PySem.W.nsIn K mainGlobals "leaves" = some (some (.ref f2)))
    (l2 : K.lookup f2 = some ⟨oc2, od2, .func (PySem.W.fnOf "leaves" "leaves" (defArgs sLeaves) (defBody sLeaves) (defScope sLeaves) .none kV2 dc2 pm2 an2 cd2 ct2), sl2⟩)
    (c2 : PySem.W.codeIn K cd2 "leaves" = true)
    (k2 : PySem.W.keepIn K (.ref f2) = true)
    (a3 : PySem.W.nsIn K mainGlobals "spans_in" = some (some (.ref f3)))
    (l3 : K.lookup f3 = some ⟨oc3, od3, .func (PySem.W.fnOf "spans_in" "spans_in" (defArgs sSpansIn) (defBody sSpansIn) (defScope sSpansIn) .none kV3 dc3 pm3 an3 cd3 ct3), sl3⟩)
    (c3 : PySem.W.codeIn K cd3 "spans_in" = true)
    (k3 : PySem.W.keepIn K (.ref f3) = true)
    (a4 : PySem.W.nsIn K mainGlobals "span_of" = some (some (.ref f4)))
    (l4 : K.lookup f4 = some ⟨oc4, od4, .func (PySem.W.fnOf "span_of" "span_of" (defArgs sSpanOf) (defBody sSpanOf) (defScope sSpanOf) (.ref t4) kV4 dc4 pm4 an4 cd4 ct4), sl4⟩)
    (c4 : PySem.W.codeIn K cd4 "span_of" = true)
    (k4 : PySem.W.keepIn K (.ref f4) = true)
    (d4 : K.lookup t4 = some ⟨ocT4, odT4, .seq #[Value.none] nT4, slT4⟩)
    (a5 : PySem.W.nsIn K mainGlobals "spans_of" = some (some (.ref f5)))
    (l5 : K.lookup f5 = some ⟨oc5, od5, .func (PySem.W.fnOf "spans_of" "spans_of" (defArgs sSpansOf) (defBody sSpansOf) (defScope sSpansOf) .none kV5 dc5 pm5 an5 cd5 ct5), sl5⟩)
    (c5 : PySem.W.codeIn K cd5 "spans_of" = true)
    (k5 : PySem.W.keepIn K (.ref f5) = true)
    (a6 : PySem.W.nsIn K mainGlobals "leaves_within" = some (some (.ref f6)))
    (l6 : K.lookup f6 = some ⟨oc6, od6, .func (PySem.W.fnOf "leaves_within" "leaves_within" (defArgs sLeavesWithin) (defBody sLeavesWithin) (defScope sLeavesWithin) .none kV6 dc6 pm6 an6 cd6 ct6), sl6⟩)
    (c6 : PySem.W.codeIn K cd6 "leaves_within" = true)
    (k6 : PySem.W.keepIn K (.ref f6) = true)
    (a7 : PySem.W.nsIn K mainGlobals "is_ahead" = some (some (.ref f7)))
    (l7 : K.lookup f7 = some ⟨oc7, od7, .func (PySem.W.fnOf "is_ahead" "is_ahead" (defArgs sIsAhead) (defBody sIsAhead) (defScope sIsAhead) .none kV7 dc7 pm7 an7 cd7 ct7), sl7⟩)
    (c7 : PySem.W.codeIn K cd7 "is_ahead" = true)
    (k7 : PySem.W.keepIn K (.ref f7) = true)
    (a8 : PySem.W.nsIn K mainGlobals "best_of" = some (some (.ref f8)))
    (l8 : K.lookup f8 = some ⟨oc8, od8, .func (PySem.W.fnOf "best_of" "best_of" (defArgs sBestOf) (defBody sBestOf) (defScope sBestOf) .none kV8 dc8 pm8 an8 cd8 ct8), sl8⟩)
    (c8 : PySem.W.codeIn K cd8 "best_of" = true)
    (k8 : PySem.W.keepIn K (.ref f8) = true)
    (a9 : PySem.W.nsIn K mainGlobals "best_by_first" = some (some (.ref f9)))
    (l9 : K.lookup f9 = some ⟨oc9, od9, .func (PySem.W.fnOf "best_by_first" "best_by_first" (defArgs sBestByFirst) (defBody sBestByFirst) (defScope sBestByFirst) .none kV9 dc9 pm9 an9 cd9 ct9), sl9⟩)
    (c9 : PySem.W.codeIn K cd9 "best_by_first" = true)
    (k9 : PySem.W.keepIn K (.ref f9) = true)
    (a10 : PySem.W.nsIn K mainGlobals "most_in_order" = some (some (.ref f10)))
    (l10 : K.lookup f10 = some ⟨oc10, od10, .func (PySem.W.fnOf "most_in_order" "most_in_order" (defArgs sMostInOrder) (defBody sMostInOrder) (defScope sMostInOrder) (.ref t10) kV10 dc10 pm10 an10 cd10 ct10), sl10⟩)
    (c10 : PySem.W.codeIn K cd10 "most_in_order" = true)
    (k10 : PySem.W.keepIn K (.ref f10) = true)
    (d10 : K.lookup t10 = some ⟨ocT10, odT10, .seq #[Value.none] nT10, slT10⟩)
    (a11 : PySem.W.nsIn K mainGlobals "least_height" = some (some (.ref f11)))
    (l11 : K.lookup f11 = some ⟨oc11, od11, .func (PySem.W.fnOf "least_height" "least_height" (defArgs sLeastHeight) (defBody sLeastHeight) (defScope sLeastHeight) .none kV11 dc11 pm11 an11 cd11 ct11), sl11⟩)
    (c11 : PySem.W.codeIn K cd11 "least_height" = true)
    (k11 : PySem.W.keepIn K (.ref f11) = true)
    (a12 : PySem.W.nsIn K mainGlobals "heights" = some (some (.ref f12)))
    (l12 : K.lookup f12 = some ⟨oc12, od12, .func (PySem.W.fnOf "heights" "heights" (defArgs sHeights) (defBody sHeights) (defScope sHeights) (.ref t12) kV12 dc12 pm12 an12 cd12 ct12), sl12⟩)
    (c12 : PySem.W.codeIn K cd12 "heights" = true)
    (k12 : PySem.W.keepIn K (.ref f12) = true)
    (d12 : K.lookup t12 = some ⟨ocT12, odT12, .seq #[Value.none] nT12, slT12⟩)
    (a13 : PySem.W.nsIn K mainGlobals "shows_most" = some (some (.ref f13)))
    (l13 : K.lookup f13 = some ⟨oc13, od13, .func (PySem.W.fnOf "shows_most" "shows_most" (defArgs sShowsMost) (defBody sShowsMost) (defScope sShowsMost) (.ref t13) kV13 dc13 pm13 an13 cd13 ct13), sl13⟩)
    (c13 : PySem.W.codeIn K cd13 "shows_most" = true)
    (k13 : PySem.W.keepIn K (.ref f13) = true)
    (d13 : K.lookup t13 = some ⟨ocT13, odT13, .seq #[Value.none] nT13, slT13⟩)
    (a14 : PySem.W.nsIn K mainGlobals "_law_hand" = some (some (.ref f14)))
    (l14 : K.lookup f14 = some ⟨oc14, od14, .func (PySem.W.fnOf "_law_hand" "_law_hand" (defArgs sHand) (defBody sHand) (defScope sHand) .none kV14 dc14 pm14 an14 cd14 ct14), sl14⟩)
    (c14 : PySem.W.codeIn K cd14 "_law_hand" = true)
    (k14 : PySem.W.keepIn K (.ref f14) = true)
    (a15 : PySem.W.nsIn K mainGlobals "_law_take" = some (some (.ref f15)))
    (l15 : K.lookup f15 = some ⟨oc15, od15, .func (PySem.W.fnOf "_law_take" "_law_take" (defArgs sTake) (defBody sTake) (defScope sTake) .none kV15 dc15 pm15 an15 cd15 ct15), sl15⟩)
    (c15 : PySem.W.codeIn K cd15 "_law_take" = true)
    (k15 : PySem.W.keepIn K (.ref f15) = true)
    (a16 : PySem.W.nsIn K mainGlobals "_law_pick" = some (some (.ref f16)))
    (l16 : K.lookup f16 = some ⟨oc16, od16, .func (PySem.W.fnOf "_law_pick" "_law_pick" (defArgs sPick) (defBody sPick) (defScope sPick) .none kV16 dc16 pm16 an16 cd16 ct16), sl16⟩)
    (c16 : PySem.W.codeIn K cd16 "_law_pick" = true)
    (k16 : PySem.W.keepIn K (.ref f16) = true)
    (a17 : PySem.W.nsIn K mainGlobals "_law_signs" = some (some (.ref f17)))
    (l17 : K.lookup f17 = some ⟨oc17, od17, .func (PySem.W.fnOf "_law_signs" "_law_signs" (defArgs sSigns) (defBody sSigns) (defScope sSigns) .none kV17 dc17 pm17 an17 cd17 ct17), sl17⟩)
    (c17 : PySem.W.codeIn K cd17 "_law_signs" = true)
    (k17 : PySem.W.keepIn K (.ref f17) = true)
    (a18 : PySem.W.nsIn K mainGlobals "_law_text" = some (some (.ref f18)))
    (l18 : K.lookup f18 = some ⟨oc18, od18, .func (PySem.W.fnOf "_law_text" "_law_text" (defArgs sText) (defBody sText) (defScope sText) .none kV18 dc18 pm18 an18 cd18 ct18), sl18⟩)
    (c18 : PySem.W.codeIn K cd18 "_law_text" = true)
    (k18 : PySem.W.keepIn K (.ref f18) = true)
    (a19 : PySem.W.nsIn K mainGlobals "_law_tongue" = some (some (.ref f19)))
    (l19 : K.lookup f19 = some ⟨oc19, od19, .func (PySem.W.fnOf "_law_tongue" "_law_tongue" (defArgs sTongue) (defBody sTongue) (defScope sTongue) .none kV19 dc19 pm19 an19 cd19 ct19), sl19⟩)
    (c19 : PySem.W.codeIn K cd19 "_law_tongue" = true)
    (k19 : PySem.W.keepIn K (.ref f19) = true)
    (a20 : PySem.W.nsIn K mainGlobals "_law_names" = some (some (.ref f20)))
    (l20 : K.lookup f20 = some ⟨oc20, od20, .func (PySem.W.fnOf "_law_names" "_law_names" (defArgs sNames) (defBody sNames) (defScope sNames) .none kV20 dc20 pm20 an20 cd20 ct20), sl20⟩)
    (c20 : PySem.W.codeIn K cd20 "_law_names" = true)
    (k20 : PySem.W.keepIn K (.ref f20) = true)
    (a21 : PySem.W.nsIn K mainGlobals "_law_tree" = some (some (.ref f21)))
    (l21 : K.lookup f21 = some ⟨oc21, od21, .func (PySem.W.fnOf "_law_tree" "_law_tree" (defArgs sTree) (defBody sTree) (defScope sTree) .none kV21 dc21 pm21 an21 cd21 ct21), sl21⟩)
    (c21 : PySem.W.codeIn K cd21 "_law_tree" = true)
    (k21 : PySem.W.keepIn K (.ref f21) = true)
    (a22 : PySem.W.nsIn K mainGlobals "_law_all" = some (some (.ref f22)))
    (l22 : K.lookup f22 = some ⟨oc22, od22, .func (PySem.W.fnOf "_law_all" "_law_all" (defArgs sAll) (defBody sAll) (defScope sAll) .none kV22 dc22 pm22 an22 cd22 ct22), sl22⟩)
    (c22 : PySem.W.codeIn K cd22 "_law_all" = true)
    (k22 : PySem.W.keepIn K (.ref f22) = true)
    (a23 : PySem.W.nsIn K mainGlobals "_law_titles" = some (some (.ref f23)))
    (l23 : K.lookup f23 = some ⟨oc23, od23, .func (PySem.W.fnOf "_law_titles" "_law_titles" (defArgs sTitles) (defBody sTitles) (defScope sTitles) .none kV23 dc23 pm23 an23 cd23 ct23), sl23⟩)
    (c23 : PySem.W.codeIn K cd23 "_law_titles" = true)
    (k23 : PySem.W.keepIn K (.ref f23) = true)
    (a24 : PySem.W.nsIn K mainGlobals "_law_own" = some (some (.ref f24)))
    (l24 : K.lookup f24 = some ⟨oc24, od24, .func (PySem.W.fnOf "_law_own" "_law_own" (defArgs sOwn) (defBody sOwn) (defScope sOwn) .none kV24 dc24 pm24 an24 cd24 ct24), sl24⟩)
    (c24 : PySem.W.codeIn K cd24 "_law_own" = true)
    (k24 : PySem.W.keepIn K (.ref f24) = true)
    (a25 : PySem.W.nsIn K mainGlobals "_law_right" = some (some (.ref f25)))
    (l25 : K.lookup f25 = some ⟨oc25, od25, .func (PySem.W.fnOf "_law_right" "_law_right" (defArgs sRight) (defBody sRight) (defScope sRight) .none kV25 dc25 pm25 an25 cd25 ct25), sl25⟩)
    (c25 : PySem.W.codeIn K cd25 "_law_right" = true)
    (k25 : PySem.W.keepIn K (.ref f25) = true)
    (a26 : PySem.W.nsIn K mainGlobals "law" = some (some (.ref f26)))
    (l26 : K.lookup f26 = some ⟨oc26, od26, .func (PySem.W.fnOf "law" "law" (defArgs sLaw) (defBody sLaw) (defScope sLaw) .none kV26 dc26 pm26 an26 cd26 ct26), sl26⟩)
    (c26 : PySem.W.codeIn K cd26 "law" = true)
    (k26 : PySem.W.keepIn K (.ref f26) = true)
    (a27 : PySem.W.nsIn K mainGlobals "is_text_of" = some (some (.ref f27)))
    (l27 : K.lookup f27 = some ⟨oc27, od27, .func (PySem.W.fnOf "is_text_of" "is_text_of" (defArgs N44.sIsTextOf) (defBody N44.sIsTextOf) (defScope N44.sIsTextOf) .none kV27 dc27 pm27 an27 cd27 ct27), sl27⟩)
    (c27 : PySem.W.codeIn K cd27 "is_text_of" = true)
    (k27 : PySem.W.keepIn K (.ref f27) = true)
    (a28 : PySem.W.nsIn K mainGlobals "is_small_text" = some (some (.ref f28)))
    (l28 : K.lookup f28 = some ⟨oc28, od28, .func (PySem.W.fnOf "is_small_text" "is_small_text" (defArgs N44.sIsSmallText) (defBody N44.sIsSmallText) (defScope N44.sIsSmallText) .none kV28 dc28 pm28 an28 cd28 ct28), sl28⟩)
    (c28 : PySem.W.codeIn K cd28 "is_small_text" = true)
    (k28 : PySem.W.keepIn K (.ref f28) = true)
    (a29 : PySem.W.nsIn K mainGlobals "linked" = some (some (.ref f29)))
    (l29 : K.lookup f29 = some ⟨oc29, od29, .func (PySem.W.fnOf "linked" "linked" (defArgs N44.sLinked) (defBody N44.sLinked) (defScope N44.sLinked) .none kV29 dc29 pm29 an29 cd29 ct29), sl29⟩)
    (c29 : PySem.W.codeIn K cd29 "linked" = true)
    (k29 : PySem.W.keepIn K (.ref f29) = true)
    (a30 : PySem.W.nsIn K mainGlobals "steps_from" = some (some (.ref f30)))
    (l30 : K.lookup f30 = some ⟨oc30, od30, .func (PySem.W.fnOf "steps_from" "steps_from" (defArgs N44.sStepsFrom) (defBody N44.sStepsFrom) (defScope N44.sStepsFrom) .none kV30 dc30 pm30 an30 cd30 ct30), sl30⟩)
    (c30 : PySem.W.codeIn K cd30 "steps_from" = true)
    (k30 : PySem.W.keepIn K (.ref f30) = true)
    (a31 : PySem.W.nsIn K mainGlobals "groups_in" = some (some (.ref f31)))
    (l31 : K.lookup f31 = some ⟨oc31, od31, .func (PySem.W.fnOf "groups_in" "groups_in" (defArgs N44.sGroupsIn) (defBody N44.sGroupsIn) (defScope N44.sGroupsIn) .none kV31 dc31 pm31 an31 cd31 ct31), sl31⟩)
    (c31 : PySem.W.codeIn K cd31 "groups_in" = true)
    (k31 : PySem.W.keepIn K (.ref f31) = true)
    (a32 : PySem.W.nsIn K mainGlobals "is_tongue" = some (some (.ref f32)))
    (l32 : K.lookup f32 = some ⟨oc32, od32, .func (PySem.W.fnOf "is_tongue" "is_tongue" (defArgs N44.sIsTongue) (defBody N44.sIsTongue) (defScope N44.sIsTongue) .none kV32 dc32 pm32 an32 cd32 ct32), sl32⟩)
    (c32 : PySem.W.codeIn K cd32 "is_tongue" = true)
    (k32 : PySem.W.keepIn K (.ref f32) = true)
    (a33 : PySem.W.nsIn K mainGlobals "is_name_text" = some (some (.ref f33)))
    (l33 : K.lookup f33 = some ⟨oc33, od33, .func (PySem.W.fnOf "is_name_text" "is_name_text" (defArgs N44.sIsNameText) (defBody N44.sIsNameText) (defScope N44.sIsNameText) .none kV33 dc33 pm33 an33 cd33 ct33), sl33⟩)
    (c33 : PySem.W.codeIn K cd33 "is_name_text" = true)
    (k33 : PySem.W.keepIn K (.ref f33) = true)
    (a34 : PySem.W.nsIn K mainGlobals "is_name" = some (some (.ref f34)))
    (l34 : K.lookup f34 = some ⟨oc34, od34, .func (PySem.W.fnOf "is_name" "is_name" (defArgs N44.sIsName) (defBody N44.sIsName) (defScope N44.sIsName) .none kV34 dc34 pm34 an34 cd34 ct34), sl34⟩)
    (c34 : PySem.W.codeIn K cd34 "is_name" = true)
    (k34 : PySem.W.keepIn K (.ref f34) = true)
    (a35 : PySem.W.nsIn K mainGlobals "refuse_unless_two_names" = some (some (.ref f35)))
    (l35 : K.lookup f35 = some ⟨oc35, od35, .func (PySem.W.fnOf "refuse_unless_two_names" "refuse_unless_two_names" (defArgs N44.sRefuseUnlessTwoNames) (defBody N44.sRefuseUnlessTwoNames) (defScope N44.sRefuseUnlessTwoNames) .none kV35 dc35 pm35 an35 cd35 ct35), sl35⟩)
    (c35 : PySem.W.codeIn K cd35 "refuse_unless_two_names" = true)
    (k35 : PySem.W.keepIn K (.ref f35) = true)
    (a36 : PySem.W.findIn K (.ref cNames) "__init__" = some (some (.ref f36)))
    (i36 : PySem.W.isFn K (.ref f36) = true)
    (l36 : K.lookup f36 = some ⟨oc36, od36, .func (PySem.W.fnOf "__init__" "Names.__init__" (defArgs N44.sNamesInit) (defBody N44.sNamesInit) (defScope N44.sNamesInit) .none kV36 dc36 pm36 an36 cd36 ct36), sl36⟩)
    (c36 : PySem.W.codeIn K cd36 "Names.__init__" = true)
    (k36 : PySem.W.keepIn K (.ref f36) = true)
    (a37 : PySem.W.findIn K (.ref cNames) "sort_out" = some (some (.ref f37)))
    (i37 : PySem.W.isFn K (.ref f37) = true)
    (l37 : K.lookup f37 = some ⟨oc37, od37, .func (PySem.W.fnOf "sort_out" "Names.sort_out" (defArgs N44.sNamesSortOut) (defBody N44.sNamesSortOut) (defScope N44.sNamesSortOut) .none kV37 dc37 pm37 an37 cd37 ct37), sl37⟩)
    (c37 : PySem.W.codeIn K cd37 "Names.sort_out" = true)
    (k37 : PySem.W.keepIn K (.ref f37) = true)
    (a38 : PySem.W.findIn K (.ref cNames) "tell" = some (some (.ref f38)))
    (i38 : PySem.W.isFn K (.ref f38) = true)
    (l38 : K.lookup f38 = some ⟨oc38, od38, .func (PySem.W.fnOf "tell" "Names.tell" (defArgs N44.sNamesTell) (defBody N44.sNamesTell) (defScope N44.sNamesTell) .none kV38 dc38 pm38 an38 cd38 ct38), sl38⟩)
    (c38 : PySem.W.codeIn K cd38 "Names.tell" = true)
    (k38 : PySem.W.keepIn K (.ref f38) = true)
    (a39 : PySem.W.findIn K (.ref cNames) "strike" = some (some (.ref f39)))
    (i39 : PySem.W.isFn K (.ref f39) = true)
    (l39 : K.lookup f39 = some ⟨oc39, od39, .func (PySem.W.fnOf "strike" "Names.strike" (defArgs N44.sNamesStrike) (defBody N44.sNamesStrike) (defScope N44.sNamesStrike) .none kV39 dc39 pm39 an39 cd39 ct39), sl39⟩)
    (c39 : PySem.W.codeIn K cd39 "Names.strike" = true)
    (k39 : PySem.W.keepIn K (.ref f39) = true)
    (a40 : PySem.W.findIn K (.ref cNames) "class_of" = some (some (.ref f40)))
    (i40 : PySem.W.isFn K (.ref f40) = true)
    (l40 : K.lookup f40 = some ⟨oc40, od40, .func (PySem.W.fnOf "class_of" "Names.class_of" (defArgs N44.sNamesClassOf) (defBody N44.sNamesClassOf) (defScope N44.sNamesClassOf) .none kV40 dc40 pm40 an40 cd40 ct40), sl40⟩)
    (c40 : PySem.W.codeIn K cd40 "Names.class_of" = true)
    (k40 : PySem.W.keepIn K (.ref f40) = true)
    (a41 : PySem.W.findIn K (.ref cNames) "are_one" = some (some (.ref f41)))
    (i41 : PySem.W.isFn K (.ref f41) = true)
    (l41 : K.lookup f41 = some ⟨oc41, od41, .func (PySem.W.fnOf "are_one" "Names.are_one" (defArgs N44.sNamesAreOne) (defBody N44.sNamesAreOne) (defScope N44.sNamesAreOne) .none kV41 dc41 pm41 an41 cd41 ct41), sl41⟩)
    (c41 : PySem.W.codeIn K cd41 "Names.are_one" = true)
    (k41 : PySem.W.keepIn K (.ref f41) = true)
    (g_SMALL_LETTERS : PySem.W.nsIn K mainGlobals "SMALL_LETTERS" = some (some (.str "abcdefghijklmnopqrstuvwxyz" u_SMALL_LETTERS)))
    (g_TEXT_SIGNS : PySem.W.nsIn K mainGlobals "TEXT_SIGNS" = some (some (.str "abcdefghijklmnopqrstuvwxyzABCDEFGHIJKLMNOPQRSTUVWXYZ0123456789 '-." u_TEXT_SIGNS)))
    (g_SHORTEST_TONGUE : PySem.W.nsIn K mainGlobals "SHORTEST_TONGUE" = some (some (.int 2 u_SHORTEST_TONGUE)))
    (g_LONGEST_TONGUE : PySem.W.nsIn K mainGlobals "LONGEST_TONGUE" = some (some (.int 3 u_LONGEST_TONGUE)))
    (g_LONGEST_TEXT : PySem.W.nsIn K mainGlobals "LONGEST_TEXT" = some (some (.int 40 u_LONGEST_TEXT)))
    (pg : PySem.W.plainGet K cNames Str.empty = true)
    (hd : PySem.W.hasDictIn K cNames = true)
    (po : PySem.W.plainOver K cNames = true)
    (sa : PySem.W.findIn K (.ref cNames) "__setattr__" = some (some (.builtin "object.__setattr__")))
    (mk : PySem.W.makesIn K cNames = true)
    (kc : PySem.W.keepIn K (.ref cNames) = true)
    (nmany : PySem.W.findIn K (.ref cNames) "many" = some none)
    (ncounting : PySem.W.findIn K (.ref cNames) "counting" = some none)
    (nlinks : PySem.W.findIn K (.ref cNames) "links" = some none)
    (ngroups : PySem.W.findIn K (.ref cNames) "groups" = some none)
    (tcode : cd8 = .ref cB)
    (tmem : pB ∈ ts)
    (thd : PySem.W.codeHdIn K cB pB = true)
    (tlk : K.lookup pB = none)
    (z_isinstance : PySem.W.nsIn K mainGlobals "isinstance" = some none)
    (z_int : PySem.W.nsIn K mainGlobals "int" = some none)
    (z_bool : PySem.W.nsIn K mainGlobals "bool" = some none)
    (z_str : PySem.W.nsIn K mainGlobals "str" = some none)
    (z_tuple : PySem.W.nsIn K mainGlobals "tuple" = some none)
    (z_list : PySem.W.nsIn K mainGlobals "list" = some none)
    (z_len : PySem.W.nsIn K mainGlobals "len" = some none)
    (z_range : PySem.W.nsIn K mainGlobals "range" = some none)
    (z_max : PySem.W.nsIn K mainGlobals "max" = some none)
    (z_min : PySem.W.nsIn K mainGlobals "min" = some none)
    (z_abs : PySem.W.nsIn K mainGlobals "abs" = some none)
    (z_all : PySem.W.nsIn K mainGlobals "all" = some none)
    (z_any : PySem.W.nsIn K mainGlobals "any" = some none)
    (z_sorted : PySem.W.nsIn K mainGlobals "sorted" = some none)
    (z_set : PySem.W.nsIn K mainGlobals "set" = some none)
    (z_enumerate : PySem.W.nsIn K mainGlobals "enumerate" = some none)
    (z_reversed : PySem.W.nsIn K mainGlobals "reversed" = some none)
    (z_repr : PySem.W.nsIn K mainGlobals "repr" = some none)
    (z_dict : PySem.W.nsIn K mainGlobals "dict" = some none)
    (z_zip : PySem.W.nsIn K mainGlobals "zip" = some none)
    : ∃ (cB pB : Addr) (fd : FuncData), pB ∈ ts ∧ PySem.W.codeHdIn K cB pB = true ∧ K.lookup pB = none ∧ (∀ (s : Shared) (v : Value), BindsTo s fd ⟨[v], []⟩ [("_law_script", v)]) ∧
      (∀ (H : Hp) (a : Addr) (ns : List Int), ns.length ≤ 63 → H pB = some (.tbl #[]) → SqL K H a (ns.map V.int) → spLaw pB K [.ref a] H (fun v _ => v = .bl true) fun _ _ _ => False) ∧
      ∀ base : Heap, K.In base → base.Ns mainGlobals mg → base.NoDigits → LamX.TabB base mg cB pB → Gn l.prog w K mg base 12 fa fd ["_law_script"] (spLaw pB K) := by
  have e := hfa.symm.trans (PySem.W.mg_of X G a26)
  cases e
  have F0 := fun_mk (st := sIsWhole) l0 c0 k0
  have D0 : Df K mg "is_whole" ["thing"] sIsWhole f0 _ := ⟨F0, PySem.W.mg_of X G a0, F0.binds (ps := ["thing"]) fun _ _ _ _ _ _ us hl => match us, hl with | [_], _ => rfl⟩
  have F1 := fun_mk (st := sIsWithin) l1 c1 k1
  have D1 : Df K mg "is_within" ["thing", "least", "most"] sIsWithin f1 _ := ⟨F1, PySem.W.mg_of X G a1, F1.binds (ps := ["thing", "least", "most"]) fun _ _ _ _ _ _ us hl => match us, hl with | [_, _, _], _ => rfl⟩
  have F2 := fun_mk (st := sLeaves) l2 c2 k2
  have D2 : Df K mg "leaves" ["work"] sLeaves f2 _ := ⟨F2, PySem.W.mg_of X G a2, F2.binds (ps := ["work"]) fun _ _ _ _ _ _ us hl => match us, hl with | [_], _ => rfl⟩
  have F3 := fun_mk (st := sSpansIn) l3 c3 k3
  have D3 : Df K mg "spans_in" ["work", "start"] sSpansIn f3 _ := ⟨F3, PySem.W.mg_of X G a3, F3.binds (ps := ["work", "start"]) fun _ _ _ _ _ _ us hl => match us, hl with | [_, _], _ => rfl⟩
  have F4 : FunD K "span_of" "span_of" (defArgs sSpanOf) (defBody sSpanOf) (defScope sSpanOf) [.non] [] f4 _ :=
    ⟨⟨_, _, _, _, _, _, _, _, _, _, rfl, l4, c4, .inr ⟨by simp, t4, _, [Value.none], _, rfl, d4, rfl, .cons rfl .nil⟩, .inl rfl⟩, k4⟩
  have F5 := fun_mk (st := sSpansOf) l5 c5 k5
  have D5 : Df K mg "spans_of" ["work", "titles", "names"] sSpansOf f5 _ := ⟨F5, PySem.W.mg_of X G a5, F5.binds (ps := ["work", "titles", "names"]) fun _ _ _ _ _ _ us hl => match us, hl with | [_, _, _], _ => rfl⟩
  have F6 := fun_mk (st := sLeavesWithin) l6 c6 k6
  have D6 : Df K mg "leaves_within" ["span"] sLeavesWithin f6 _ := ⟨F6, PySem.W.mg_of X G a6, F6.binds (ps := ["span"]) fun _ _ _ _ _ _ us hl => match us, hl with | [_], _ => rfl⟩
  have F7 := fun_mk (st := sIsAhead) l7 c7 k7
  have D7 : Df K mg "is_ahead" ["one", "other"] sIsAhead f7 _ := ⟨F7, PySem.W.mg_of X G a7, F7.binds (ps := ["one", "other"]) fun _ _ _ _ _ _ us hl => match us, hl with | [_, _], _ => rfl⟩
  have F8 := fun_mk (st := sBestOf) l8 c8 k8
  have D8 : Df K mg "best_of" ["choices"] sBestOf f8 _ := ⟨F8, PySem.W.mg_of X G a8, F8.binds (ps := ["choices"]) fun _ _ _ _ _ _ us hl => match us, hl with | [_], _ => rfl⟩
  have F9 := fun_mk (st := sBestByFirst) l9 c9 k9
  have D9 : Df K mg "best_by_first" ["spans"] sBestByFirst f9 _ := ⟨F9, PySem.W.mg_of X G a9, F9.binds (ps := ["spans"]) fun _ _ _ _ _ _ us hl => match us, hl with | [_], _ => rfl⟩
  have F10 : FunD K "most_in_order" "most_in_order" (defArgs sMostInOrder) (defBody sMostInOrder) (defScope sMostInOrder) [.non] [] f10 _ :=
    ⟨⟨_, _, _, _, _, _, _, _, _, _, rfl, l10, c10, .inr ⟨by simp, t10, _, [Value.none], _, rfl, d10, rfl, .cons rfl .nil⟩, .inl rfl⟩, k10⟩
  have F11 := fun_mk (st := sLeastHeight) l11 c11 k11
  have D11 : Df K mg "least_height" ["spans", "known", "number"] sLeastHeight f11 _ := ⟨F11, PySem.W.mg_of X G a11, F11.binds (ps := ["spans", "known", "number"]) fun _ _ _ _ _ _ us hl => match us, hl with | [_, _, _], _ => rfl⟩
  have F12 : FunD K "heights" "heights" (defArgs sHeights) (defBody sHeights) (defScope sHeights) [.non] [] f12 _ :=
    ⟨⟨_, _, _, _, _, _, _, _, _, _, rfl, l12, c12, .inr ⟨by simp, t12, _, [Value.none], _, rfl, d12, rfl, .cons rfl .nil⟩, .inl rfl⟩, k12⟩
  have F13 : FunD K "shows_most" "shows_most" (defArgs sShowsMost) (defBody sShowsMost) (defScope sShowsMost) [.non] [] f13 _ :=
    ⟨⟨_, _, _, _, _, _, _, _, _, _, rfl, l13, c13, .inr ⟨by simp, t13, _, [Value.none], _, rfl, d13, rfl, .cons rfl .nil⟩, .inl rfl⟩, k13⟩
  have F14 := fun_mk (st := sHand) l14 c14 k14
  have D14 : Df K mg "_law_hand" ["_law_script", "_law_k"] sHand f14 _ := ⟨F14, PySem.W.mg_of X G a14, F14.binds (ps := ["_law_script", "_law_k"]) fun _ _ _ _ _ _ us hl => match us, hl with | [_, _], _ => rfl⟩
  have F15 := fun_mk (st := sTake) l15 c15 k15
  have D15 : Df K mg "_law_take" ["_law_hand_here", "_law_many"] sTake f15 _ := ⟨F15, PySem.W.mg_of X G a15, F15.binds (ps := ["_law_hand_here", "_law_many"]) fun _ _ _ _ _ _ us hl => match us, hl with | [_, _], _ => rfl⟩
  have F16 := fun_mk (st := sPick) l16 c16 k16
  have D16 : Df K mg "_law_pick" ["_law_hand_here", "_law_some"] sPick f16 _ := ⟨F16, PySem.W.mg_of X G a16, F16.binds (ps := ["_law_hand_here", "_law_some"]) fun _ _ _ _ _ _ us hl => match us, hl with | [_, _], _ => rfl⟩
  have F17 := fun_mk (st := sSigns) l17 c17 k17
  have D17 : Df K mg "_law_signs" [] sSigns f17 _ := ⟨F17, PySem.W.mg_of X G a17, F17.binds (ps := []) fun _ _ _ _ _ _ us hl => match us, hl with | [], _ => rfl⟩
  have F18 := fun_mk (st := sText) l18 c18 k18
  have D18 : Df K mg "_law_text" ["_law_hand_here", "_law_most"] sText f18 _ := ⟨F18, PySem.W.mg_of X G a18, F18.binds (ps := ["_law_hand_here", "_law_most"]) fun _ _ _ _ _ _ us hl => match us, hl with | [_, _], _ => rfl⟩
  have F19 := fun_mk (st := sTongue) l19 c19 k19
  have D19 : Df K mg "_law_tongue" ["_law_hand_here"] sTongue f19 _ := ⟨F19, PySem.W.mg_of X G a19, F19.binds (ps := ["_law_hand_here"]) fun _ _ _ _ _ _ us hl => match us, hl with | [_], _ => rfl⟩
  have F20 := fun_mk (st := sNames) l20 c20 k20
  have D20 : Df K mg "_law_names" ["_law_hand_here", "_law_many"] sNames f20 _ := ⟨F20, PySem.W.mg_of X G a20, F20.binds (ps := ["_law_hand_here", "_law_many"]) fun _ _ _ _ _ _ us hl => match us, hl with | [_, _], _ => rfl⟩
  have F21 := fun_mk (st := sTree) l21 c21 k21
  have D21 : Df K mg "_law_tree" ["_law_hand_here", "_law_deep", "_law_left"] sTree f21 _ := ⟨F21, PySem.W.mg_of X G a21, F21.binds (ps := ["_law_hand_here", "_law_deep", "_law_left"]) fun _ _ _ _ _ _ us hl => match us, hl with | [_, _, _], _ => rfl⟩
  have F22 := fun_mk (st := sAll) l22 c22 k22
  have D22 : Df K mg "_law_all" ["_law_opus"] sAll f22 _ := ⟨F22, PySem.W.mg_of X G a22, F22.binds (ps := ["_law_opus"]) fun _ _ _ _ _ _ us hl => match us, hl with | [_], _ => rfl⟩
  have F23 := fun_mk (st := sTitles) l23 c23 k23
  have D23 : Df K mg "_law_titles" ["_law_hand_here", "_law_several", "_law_others", "_law_most"] sTitles f23 _ := ⟨F23, PySem.W.mg_of X G a23, F23.binds (ps := ["_law_hand_here", "_law_several", "_law_others", "_law_most"]) fun _ _ _ _ _ _ us hl => match us, hl with | [_, _, _, _], _ => rfl⟩
  have F24 := fun_mk (st := sOwn) l24 c24 k24
  have D24 : Df K mg "_law_own" ["_law_opus", "_law_title", "_law_pairs"] sOwn f24 _ := ⟨F24, PySem.W.mg_of X G a24, F24.binds (ps := ["_law_opus", "_law_title", "_law_pairs"]) fun _ _ _ _ _ _ us hl => match us, hl with | [_, _, _], _ => rfl⟩
  have F25 := fun_mk (st := sRight) l25 c25 k25
  have D25 : Df K mg "_law_right" ["_law_opus", "_law_heads", "_law_book", "_law_pairs"] sRight f25 _ := ⟨F25, PySem.W.mg_of X G a25, F25.binds (ps := ["_law_opus", "_law_heads", "_law_book", "_law_pairs"]) fun _ _ _ _ _ _ us hl => match us, hl with | [_, _, _, _], _ => rfl⟩
  have F26 := fun_mk (st := sLaw) l26 c26 k26
  have D26 : Df K mg "law" ["_law_script"] sLaw fa _ := ⟨F26, PySem.W.mg_of X G a26, F26.binds (ps := ["_law_script"]) fun _ _ _ _ _ _ us hl => match us, hl with | [_], _ => rfl⟩
  have F27 := fun_mk (st := N44.sIsTextOf) l27 c27 k27
  have D27 : N44.Df K mg "is_text_of" ["thing", "signs", "least", "most"] N44.sIsTextOf f27 _ := ⟨F27, PySem.W.mg_of X G a27, F27.binds (ps := ["thing", "signs", "least", "most"]) fun _ _ _ _ _ _ us hl => match us, hl with | [_, _, _, _], _ => rfl⟩
  have F28 := fun_mk (st := N44.sIsSmallText) l28 c28 k28
  have D28 : N44.Df K mg "is_small_text" ["thing", "least", "most"] N44.sIsSmallText f28 _ := ⟨F28, PySem.W.mg_of X G a28, F28.binds (ps := ["thing", "least", "most"]) fun _ _ _ _ _ _ us hl => match us, hl with | [_, _, _], _ => rfl⟩
  have F29 := fun_mk (st := N44.sLinked) l29 c29 k29
  have D29 : N44.Df K mg "linked" ["nodes", "pairs"] N44.sLinked f29 _ := ⟨F29, PySem.W.mg_of X G a29, F29.binds (ps := ["nodes", "pairs"]) fun _ _ _ _ _ _ us hl => match us, hl with | [_, _], _ => rfl⟩
  have F30 := fun_mk (st := N44.sStepsFrom) l30 c30 k30
  have D30 : N44.Df K mg "steps_from" ["links", "start"] N44.sStepsFrom f30 _ := ⟨F30, PySem.W.mg_of X G a30, F30.binds (ps := ["links", "start"]) fun _ _ _ _ _ _ us hl => match us, hl with | [_, _], _ => rfl⟩
  have F31 := fun_mk (st := N44.sGroupsIn) l31 c31 k31
  have D31 : N44.Df K mg "groups_in" ["links"] N44.sGroupsIn f31 _ := ⟨F31, PySem.W.mg_of X G a31, F31.binds (ps := ["links"]) fun _ _ _ _ _ _ us hl => match us, hl with | [_], _ => rfl⟩
  have F32 := fun_mk (st := N44.sIsTongue) l32 c32 k32
  have D32 : N44.Df K mg "is_tongue" ["thing"] N44.sIsTongue f32 _ := ⟨F32, PySem.W.mg_of X G a32, F32.binds (ps := ["thing"]) fun _ _ _ _ _ _ us hl => match us, hl with | [_], _ => rfl⟩
  have F33 := fun_mk (st := N44.sIsNameText) l33 c33 k33
  have D33 : N44.Df K mg "is_name_text" ["thing"] N44.sIsNameText f33 _ := ⟨F33, PySem.W.mg_of X G a33, F33.binds (ps := ["thing"]) fun _ _ _ _ _ _ us hl => match us, hl with | [_], _ => rfl⟩
  have F34 := fun_mk (st := N44.sIsName) l34 c34 k34
  have D34 : N44.Df K mg "is_name" ["thing"] N44.sIsName f34 _ := ⟨F34, PySem.W.mg_of X G a34, F34.binds (ps := ["thing"]) fun _ _ _ _ _ _ us hl => match us, hl with | [_], _ => rfl⟩
  have F35 := fun_mk (st := N44.sRefuseUnlessTwoNames) l35 c35 k35
  have D35 : N44.Df K mg "refuse_unless_two_names" ["one", "other"] N44.sRefuseUnlessTwoNames f35 _ := ⟨F35, PySem.W.mg_of X G a35, F35.binds (ps := ["one", "other"]) fun _ _ _ _ _ _ us hl => match us, hl with | [_, _], _ => rfl⟩
  have F36 := fun_mk (st := N44.sNamesInit) l36 c36 k36
  have B36 := F36.binds (ps := ["self"]) fun _ _ _ _ _ _ us hl => match us, hl with | [_], _ => rfl
  have F37 := fun_mk (st := N44.sNamesSortOut) l37 c37 k37
  have B37 := F37.binds (ps := ["self"]) fun _ _ _ _ _ _ us hl => match us, hl with | [_], _ => rfl
  have F38 := fun_mk (st := N44.sNamesTell) l38 c38 k38
  have B38 := F38.binds (ps := ["self", "one", "other"]) fun _ _ _ _ _ _ us hl => match us, hl with | [_, _, _], _ => rfl
  have F39 := fun_mk (st := N44.sNamesStrike) l39 c39 k39
  have B39 := F39.binds (ps := ["self", "number"]) fun _ _ _ _ _ _ us hl => match us, hl with | [_, _], _ => rfl
  have F40 := fun_mk (st := N44.sNamesClassOf) l40 c40 k40
  have B40 := F40.binds (ps := ["self", "name"]) fun _ _ _ _ _ _ us hl => match us, hl with | [_, _], _ => rfl
  have F41 := fun_mk (st := N44.sNamesAreOne) l41 c41 k41
  have B41 := F41.binds (ps := ["self", "one", "other"]) fun _ _ _ _ _ _ us hl => match us, hl with | [_, _, _], _ => rfl
  have T : Txt mg := ⟨PySem.W.mg_none_of X G z_isinstance,
    PySem.W.mg_none_of X G z_int,
    PySem.W.mg_none_of X G z_bool,
    PySem.W.mg_none_of X G z_str,
    PySem.W.mg_none_of X G z_tuple,
    PySem.W.mg_none_of X G z_list,
    PySem.W.mg_none_of X G z_len,
    PySem.W.mg_none_of X G z_range,
    PySem.W.mg_none_of X G z_max,
    PySem.W.mg_none_of X G z_min,
    PySem.W.mg_none_of X G z_abs,
    PySem.W.mg_none_of X G z_all,
    PySem.W.mg_none_of X G z_any,
    PySem.W.mg_none_of X G z_sorted,
    PySem.W.mg_none_of X G z_set,
    PySem.W.mg_none_of X G z_enumerate,
    PySem.W.mg_none_of X G z_reversed,
    PySem.W.mg_none_of X G z_repr,
    PySem.W.mg_none_of X G z_dict⟩
  have TN : N44.Txt K mg := ⟨⟨_, PySem.W.mg_of X G g_SMALL_LETTERS⟩,
    ⟨_, PySem.W.mg_of X G g_TEXT_SIGNS⟩,
    ⟨_, PySem.W.mg_of X G g_SHORTEST_TONGUE⟩,
    ⟨_, PySem.W.mg_of X G g_LONGEST_TONGUE⟩,
    ⟨_, PySem.W.mg_of X G g_LONGEST_TEXT⟩,
    PySem.W.mg_none_of X G z_isinstance,
    PySem.W.mg_none_of X G z_str,
    PySem.W.mg_none_of X G z_tuple,
    PySem.W.mg_none_of X G z_len,
    PySem.W.mg_none_of X G z_all,
    PySem.W.mg_none_of X G z_range,
    PySem.W.mg_none_of X G z_repr,
    PySem.W.mg_none_of X G z_list,
    PySem.W.mg_none_of X G z_max,
    PySem.W.mg_none_of X G z_min,
    PySem.W.mg_none_of X G z_bool,
    PySem.W.mg_none_of X G z_int,
    PySem.W.mg_none_of X G z_sorted,
    PySem.W.mg_none_of X G z_set,
    PySem.W.mg_none_of X G z_enumerate,
    PySem.W.mg_none_of X G z_zip⟩
  have N : N44.NbC K cNames := ⟨⟨pg, hd, po, sa⟩, nmany, ncounting, nlinks, ngroups⟩
  refine ⟨cB, pB, PySem.W.fnOf "law" "law" (defArgs sLaw) (defBody sLaw) (defScope sLaw) .none kV26 dc26 pm26 an26 cd26 ct26, tmem, thd, tlk, fun s v => .of_eq rfl, fun H a ns hl hH hS => ⟨a, ns, rfl, hS, hl, fun p hp => ?t, fun _ => rfl⟩, fun base kb gb nd TB => ?g⟩
  case t =>
    rw [List.mem_singleton.mp hp]
    exact .nil hH
  case g =>
    have cW := D0.ca (ok_whole (P := l.prog) (w := w) (base := base) D0 T)
    have cWi := D1.ca (ok_within D1 cW)
    have nWi : N44.Ca l.prog w K mg base 2 "is_within" ["thing", "least", "most"] N44.spWiI := wi_ca D1 (ok_within D1 cW)
    have nO := D27.ca (N44.ok_of (P := l.prog) (w := w) (base := base) D27 TN)
    have nS := D28.ca (N44.ok_small D28 TN nO)
    have nTo := D32.ca (N44.ok_tongue D32 TN nS)
    have nN := D33.ca (N44.ok_nt D33 TN nO)
    have nNm := D34.ca (N44.ok_name D34 TN nTo nN)
    have nRf := D35.ca (N44.ok_refuse D35 TN nNm)
    have nLi := D29.ca (N44.ok_linked (P := l.prog) (w := w) (base := base) D29 TN)
    have nSt := D30.ca (N44.ok_steps (P := l.prog) (w := w) (base := base) D30 TN)
    have nGr := D31.ca (N44.ok_groups D31 TN nSt)
    have nSo : N44.Mt l.prog w K mg base 5 cNames "sort_out" ["self"] (N44.spSort K) := ⟨⟨f37, _, ⟨a37, i37, k37⟩, N44.ok_sort F37 TN nLi nGr, B37⟩⟩
    have nCo : N44.Mt l.prog w K mg base 1 cNames "class_of" ["self", "name"] (N44.spClassOf cNames) := ⟨⟨f40, _, ⟨a40, i40, k40⟩, N44.ok_cof F40 N.cls N.grp, B40⟩⟩
    have nAo : N44.Mt l.prog w K mg base 2 cNames "are_one" ["self", "one", "other"] (N44.spAreOne cNames) := ⟨⟨f41, _, ⟨a41, i41, k41⟩, N44.ok_one F41 TN N.cls N.grp nCo, B41⟩⟩
    have nTe : N44.Mt l.prog w K mg base 6 cNames "tell" ["self", "one", "other"] (N44.spTell cNames) := ⟨⟨f38, _, ⟨a38, i38, k38⟩, N44.ok_tell F38 N nRf nSo, B38⟩⟩
    have nSk : N44.Mt l.prog w K mg base 6 cNames "strike" ["self", "number"] (N44.spStrike cNames) := ⟨⟨f39, _, ⟨a39, i39, k39⟩, N44.ok_strike F39 TN N nWi nSo nCo nAo, B39⟩⟩
    have GN : Mn l.prog w K mg base cNames f36 _ := ⟨⟨mk, a36, i36, kc⟩, PySem.W.mg_of X G a_Names, N44.ok_init F36 N, B36⟩
    have cSI := D3.ca (si_fn (P := l.prog) (w := w) (base := base) D3 T 5)
    have cLv := D2.ca (leaves_fn (P := l.prog) (w := w) (base := base) D2 T 5)
    have okSo := ok_so F4 T cSI N.cls nAo
    have cSO := so_ca F4 (PySem.W.mg_of X G a4) okSo
    have cSOs := D5.ca (ok_sos D5 T cSO)
    have cLW := D6.ca (ok_lw (P := l.prog) (w := w) (base := base) D6)
    have cAh := D7.ca (ok_ah (P := l.prog) (w := w) (base := base) D7)
    have cBO := D8.ca (ok_bo (P := l.prog) (w := w) (base := base) D8 tcode TB T)
    have cBB := D9.ca (ok_bb D9 T cBO cLW cAh)
    have Mo := mo_mk F10 (PySem.W.mg_of X G a10) (ok_mo F10 T cSOs cBB cBO cLv)
    have cLH := D11.ca (ok_lh D11 T cLW cAh)
    have Ht := ht_mk F12 (PySem.W.mg_of X G a12) (ok_ht F12 T cSOs cLH)
    have Sm := sm_mk F13 (PySem.W.mg_of X G a13) (ok_sm F13 T cWi cSOs cLH)
    have cH := D14.ca (ok_hand (P := l.prog) (w := w) (base := base) D14 T)
    have cT := D15.ca (ok_take (P := l.prog) (w := w) (base := base) D15)
    have cP := D16.ca (ok_pick D16 T cT)
    have cS := D17.ca (ok_signs (P := l.prog) (w := w) (base := base) D17)
    have cX := D18.ca (ok_text D18 T cT cP cS)
    have cG := D19.ca (ok_tongue D19 T cT cP)
    have cN := D20.ca (ok_names D20 T cT cP cS cX cG)
    have cTA := D21.ca (fn_all (N := 5) (k := 8) (sp := spTree) fun n hn => FnOk.mono (tree_fn D21 T cP n) (by omega))
    have cAA := D22.ca (all_fn (P := l.prog) (w := w) (base := base) D22 T 5)
    have cTi := D23.ca (ok_ti D23 T cT cP)
    have cOw := D24.ca (ok_own D24 T cAA)
    exact ok_law D26 T cH cT cP cN cTA cAA cTi N GN nTe nSk D25 (ok_rg D25 T cOw Mo Ht Sm)
end K44
open PySem PySem.W PyProof.Rows L2
set_option maxRecDepth 100000 in
set_option maxHeartbeats 0 in
theorem PySem.Challenge.cw_takesworks_k44_titles_in_other_tongues_holds : PySem.Challenge.rw_takesworks_k44_titles_in_other_tongues.Holds := by
  w_on; o_law; k_head; (case hw => w_witness2)
  k_fill
  refine K44.walk_goT (l := PySem.Challenge.rw_takesworks_k44_titles_in_other_tongues) (n := 63) (k := 12) (x := "_law_script") (sp := K44.spLaw) rfl (by decide) rfl ⟨rfl, by decide, by decide⟩ (fun w h Y => ⟨PySem.W.km_in_of Y, PySem.W.km_tabs_of Y⟩) ?F
  case F =>
    intro w mg fa h KX G hmg
    refine' K44.all_mk KX G hmg ?a_Names ?a0 ?l0 ?c0 ?k0 ?a1 ?l1 ?c1 ?k1 ?a2 ?l2 ?c2 ?k2 ?a3 ?l3 ?c3 ?k3 ?a4 ?l4 ?c4 ?k4 ?d4 ?a5 ?l5 ?c5 ?k5 ?a6 ?l6 ?c6 ?k6 ?a7 ?l7 ?c7 ?k7 ?a8 ?l8 ?c8 ?k8 ?a9 ?l9 ?c9 ?k9 ?a10 ?l10 ?c10 ?k10 ?d10 ?a11 ?l11 ?c11 ?k11 ?a12 ?l12 ?c12 ?k12 ?d12 ?a13 ?l13 ?c13 ?k13 ?d13 ?a14 ?l14 ?c14 ?k14 ?a15 ?l15 ?c15 ?k15 ?a16 ?l16 ?c16 ?k16 ?a17 ?l17 ?c17 ?k17 ?a18 ?l18 ?c18 ?k18 ?a19 ?l19 ?c19 ?k19 ?a20 ?l20 ?c20 ?k20 ?a21 ?l21 ?c21 ?k21 ?a22 ?l22 ?c22 ?k22 ?a23 ?l23 ?c23 ?k23 ?a24 ?l24 ?c24 ?k24 ?a25 ?l25 ?c25 ?k25 ?a26 ?l26 ?c26 ?k26 ?a27 ?l27 ?c27 ?k27 ?a28 ?l28 ?c28 ?k28 ?a29 ?l29 ?c29 ?k29 ?a30 ?l30 ?c30 ?k30 ?a31 ?l31 ?c31 ?k31 ?a32 ?l32 ?c32 ?k32 ?a33 ?l33 ?c33 ?k33 ?a34 ?l34 ?c34 ?k34 ?a35 ?l35 ?c35 ?k35 ?a36 ?i36 ?l36 ?c36 ?k36 ?a37 ?i37 ?l37 ?c37 ?k37 ?a38 ?i38 ?l38 ?c38 ?k38 ?a39 ?i39 ?l39 ?c39 ?k39 ?a40 ?i40 ?l40 ?c40 ?k40 ?a41 ?i41 ?l41 ?c41 ?k41 ?g_SMALL_LETTERS ?g_TEXT_SIGNS ?g_SHORTEST_TONGUE ?g_LONGEST_TONGUE ?g_LONGEST_TEXT ?pg ?hd ?po ?sa ?mk ?kc ?nmany ?ncounting ?nlinks ?ngroups ?tcode ?tmem ?thd ?tlk ?z_isinstance ?z_int ?z_bool ?z_str ?z_tuple ?z_list ?z_len ?z_range ?z_max ?z_min ?z_abs ?z_all ?z_any ?z_sorted ?z_set ?z_enumerate ?z_reversed ?z_repr ?z_dict ?z_zip
    (case a_Names => k_is)
    (case a0 => k_is)
    (case l0 => k_is)
    (case c0 => k_is)
    (case k0 => k_is)
    (case a1 => k_is)
    (case l1 => k_is)
    (case c1 => k_is)
    (case k1 => k_is)
    (case a2 => k_is)
    (case l2 => k_is)
    (case c2 => k_is)
    (case k2 => k_is)
    (case a3 => k_is)
    (case l3 => k_is)
    (case c3 => k_is)
    (case k3 => k_is)
    (case a4 => k_is)
    (case l4 => k_is)
    (case c4 => k_is)
    (case k4 => k_is)
    (case d4 => k_is)
    (case a5 => k_is)
    (case l5 => k_is)
    (case c5 => k_is)
    (case k5 => k_is)
    (case a6 => k_is)
    (case l6 => k_is)
    (case c6 => k_is)
    (case k6 => k_is)
    (case a7 => k_is)
    (case l7 => k_is)
    (case c7 => k_is)
    (case k7 => k_is)
    (case a8 => k_is)
    (case l8 => k_is)
    (case c8 => k_is)
    (case k8 => k_is)
    (case a9 => k_is)
    (case l9 => k_is)
    (case c9 => k_is)
    (case k9 => k_is)
    (case a10 => k_is)
    (case l10 => k_is)
    (case c10 => k_is)
    (case k10 => k_is)
    (case d10 => k_is)
    (case a11 => k_is)
    (case l11 => k_is)
    (case c11 => k_is)
    (case k11 => k_is)
    (case a12 => k_is)
    (case l12 => k_is)
    (case c12 => k_is)
    (case k12 => k_is)
    (case d12 => k_is)
    (case a13 => k_is)
    (case l13 => k_is)
    (case c13 => k_is)
    (case k13 => k_is)
    (case d13 => k_is)
    (case a14 => k_is)
    (case l14 => k_is)
    (case c14 => k_is)
    (case k14 => k_is)
    (case a15 => k_is)
    (case l15 => k_is)
    (case c15 => k_is)
    (case k15 => k_is)
    (case a16 => k_is)
    (case l16 => k_is)
    (case c16 => k_is)
    (case k16 => k_is)
    (case a17 => k_is)
    (case l17 => k_is)
    (case c17 => k_is)
    (case k17 => k_is)
    (case a18 => k_is)
    (case l18 => k_is)
    (case c18 => k_is)
    (case k18 => k_is)
    (case a19 => k_is)
    (case l19 => k_is)
    (case c19 => k_is)
    (case k19 => k_is)
    (case a20 => k_is)
    (case l20 => k_is)
    (case c20 => k_is)
    (case k20 => k_is)
    (case a21 => k_is)
    (case l21 => k_is)
    (case c21 => k_is)
    (case k21 => k_is)
    (case a22 => k_is)
    (case l22 => k_is)
    (case c22 => k_is)
    (case k22 => k_is)
    (case a23 => k_is)
    (case l23 => k_is)
    (case c23 => k_is)
    (case k23 => k_is)
    (case a24 => k_is)
    (case l24 => k_is)
    (case c24 => k_is)
    (case k24 => k_is)
    (case a25 => k_is)
    (case l25 => k_is)
    (case c25 => k_is)
    (case k25 => k_is)
    (case a26 => k_is)
    (case l26 => k_is)
    (case c26 => k_is)
    (case k26 => k_is)
    (case a27 => k_is)
    (case l27 => k_is)
    (case c27 => k_is)
    (case k27 => k_is)
    (case a28 => k_is)
    (case l28 => k_is)
    (case c28 => k_is)
    (case k28 => k_is)
    (case a29 => k_is)
    (case l29 => k_is)
    (case c29 => k_is)
    (case k29 => k_is)
    (case a30 => k_is)
    (case l30 => k_is)
    (case c30 => k_is)
    (case k30 => k_is)
    (case a31 => k_is)
    (case l31 => k_is)
    (case c31 => k_is)
    (case k31 => k_is)
    (case a32 => k_is)
    (case l32 => k_is)
    (case c32 => k_is)
    (case k32 => k_is)
    (case a33 => k_is)
    (case l33 => k_is)
    (case c33 => k_is)
    (case k33 => k_is)
    (case a34 => k_is)
    (case l34 => k_is)
    (case c34 => k_is)
    (case k34 => k_is)
    (case a35 => k_is)
    (case l35 => k_is)
    (case c35 => k_is)
    (case k35 => k_is)
    (case a36 => k_is)
    (case i36 => k_is)
    (case l36 => k_is)
    (case c36 => k_is)
    (case k36 => k_is)
    (case a37 => k_is)
    (case i37 => k_is)
    (case l37 => k_is)
    (case c37 => k_is)
    (case k37 => k_is)
    (case a38 => k_is)
    (case i38 => k_is)
    (case l38 => k_is)
    (case c38 => k_is)
    (case k38 => k_is)
    (case a39 => k_is)
    (case i39 => k_is)
    (case l39 => k_is)
    (case c39 => k_is)
    (case k39 => k_is)
    (case a40 => k_is)
    (case i40 => k_is)
    (case l40 => k_is)
    (case c40 => k_is)
    (case k40 => k_is)
    (case a41 => k_is)
    (case i41 => k_is)
    (case l41 => k_is)
    (case c41 => k_is)
    (case k41 => k_is)
    (case g_SMALL_LETTERS => k_is)
    (case g_TEXT_SIGNS => k_is)
    (case g_SHORTEST_TONGUE => k_is)
    (case g_LONGEST_TONGUE => k_is)
    (case g_LONGEST_TEXT => k_is)
    (case pg => k_is)
    (case hd => k_is)
    (case po => k_is)
    (case sa => k_is)
    (case mk => k_is)
    (case kc => k_is)
    (case nmany => k_is)
    (case ncounting => k_is)
    (case nlinks => k_is)
    (case ngroups => k_is)
    (case tcode => exact rfl)
    (case tmem => exact List.mem_singleton.mpr rfl)
    (case thd => first | kernel_rfl | exact rfl)
    (case tlk => first | kernel_rfl | exact rfl)
    (case z_isinstance => k_is)
    (case z_int => k_is)
    (case z_bool => k_is)
    (case z_str => k_is)
    (case z_tuple => k_is)
    (case z_list => k_is)
    (case z_len => k_is)
    (case z_range => k_is)
    (case z_max => k_is)
    (case z_min => k_is)
    (case z_abs => k_is)
    (case z_all => k_is)
    (case z_any => k_is)
    (case z_sorted => k_is)
    (case z_set => k_is)
    (case z_enumerate => k_is)
    (case z_reversed => k_is)
    (case z_repr => k_is)
    (case z_dict => k_is)
    (case z_zip => k_is)
