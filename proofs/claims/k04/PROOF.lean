import PyProof.Rows.All
import Wide.All
import OpenK.AllK
import Wide.FinOn
import HandS.ForMost
import HandS.Wide
import HandS.Flow
import HandS.IsInst
import HandS.Codes
import HandS.TupLe
import HandS.Zip
import HandS.Walk
import HandS.FStrTup
import HandS.RaiseMore
import PyProof.ReprRoads
import KE.SortKeyHeap
import HandS.SortKw
import HandS.Defaults
import HandS.Style
import HandS.More
import HandS.MakeKw
import PySem.Challenge.RW_takesworks_k04_days_in_order
set_option Elab.async false
set_option linter.all false
set_option maxRecDepth 100000
set_option maxHeartbeats 4000000
namespace K4
open PySem PySem.Spec PyProof.Rows L2

/-! ## defs that show things: promises where no showing is under way -/
structure Gn (P : Program) (w : World) (K : PySem.W.Frag) (mg : Str → Option Value) (base : Heap) (k : Nat) (f : Addr) (fd : FuncData) (ps : List Str) (sp : Sp) : Prop where
  many : ∀ vs H Q E, sp vs H Q E → vs.length = ps.length
  go : ∀ (A : Around) (outer : List Env) (s : Shared) (H : Hp) (args : Args) (us : List Value) (vs : List V) (Q : VK) (E : XK), A.guards = some [] → Room k A →
    Env0 P w K mg base A outer s H → BindsTo s fd args (ps.zip us) → Vals vs us → sp vs H Q E → codeAny (model P w) A (.call (.ref f) args) (CR CX0 outer P w H s Q E) s

section
variable {P : Program} {w : World} {K : PySem.W.Frag} {mg : Str → Option Value} {base : Heap}

theorem gn_body {x qual : Str} {st : Stmt} {f : Addr} {fd : FuncData} {N ps : List Str} {k : Nat} {sp : Sp} (F : Fun K x qual st f fd) (S : FnScope N ps (defScope st))
    (many : ∀ vs H Q E, sp vs H Q E → vs.length = ps.length)
    (body : ∀ (cdv : Value) (A : Around) (outer : List Env) (s : Shared) (H : Hp) (vs : List V) (Q : VK) (E : XK), A.guards = some [] →
      Room k (A.deeper (envOfC qual (defScope st) s.heap.objs.size f cdv)) → sp vs H Q E →
      ∃ t, PSs (cxOf CX0 P w K mg base N qual (defScope st) f cdv A outer s H E).nox (defBody st) t ∧ t { nx := fun _ H' => Q .non H', rt := Q } (start N vs) H) :
    Gn P w K mg base (k + 1) f fd ps sp := by
  obtain ⟨oc, od, kV, doc, pm, an, cdv, ct, osl, rfl, lk, hcd⟩ := F.ex
  refine ⟨many, fun A outer s H args us vs Q E hg room en bd rv hsp => ?_⟩
  have kin : K.In s.heap := en.mod.kin.keeps fun b o q => (en.bs b o q).1
  refine Att.call_fn kin (en.mod.nolimit.keeps fun b o q => (en.bs b o q).1) lk hcd room.depth bd ?_ (fun s1 inc => ?_) S.co S.gen S.kind
  · refine List.all_eq_true.mpr fun y hy => ?_
    rcases S.par y.1 (List.of_mem_zip (a := y.1) (b := y.2) hy).1 with q | q
    · rw [q]; rfl
    · rw [q]; rfl
  · obtain ⟨t, ht, hq⟩ := body cdv A outer s H vs Q E hg (room.deeper _) hsp
    have I := inv_start (CX := CX0) (E := E) S room.hd en (many _ _ _ _ hsp) rv inc
    refine wpAny_mono (ht.nox.run [] s1 _ H _ I hq) (fun fl s' hs => ?_) fun _ _ z => z
    cases fl with
    | ret u =>
      obtain ⟨v, _, H', J, r, q⟩ := hs
      exact ⟨v, H', J.os, J.bare, J.base, J.hok, r, q⟩
    | next =>
      obtain ⟨_, H', J, q⟩ := hs
      exact ⟨.non, H', J.os, J.bare, J.base, J.hok, rfl, q⟩
    | brk =>
      obtain ⟨_, _, _, z⟩ := hs
      exact False.elim z
    | cont =>
      obtain ⟨_, _, _, z⟩ := hs
      exact False.elim z

end
section
variable {X : Cx} {k : Nat} {f : Addr} {fd : FuncData} {ps : List Str} {sp : Sp} {x : Str} {p pos : Pos} {e : Expr} {es : List Expr} {t : TA}

theorem pe_gn (F : Gn X.prog X.w X.K X.mg X.base k f fd ps sp) (quiet : X.A.guards = some []) (room : Room k X.A) (gl : Gl X x) (mgf : X.mg x = some (.ref f))
    (kp : PySem.W.keepIn X.K (.ref f) = true) (bd : Binds X.K fd ps []) (ha : PA X (e :: es) t) (hdb : (x == ("__debug__" : Str)) = false := by decide)
    (he : starEach (e :: es) X.env = (false, eval e X.env) :: starEach es X.env := by rfl) (hpl : (backTo pos (starEach es X.env)).any (·.1) = false := by rfl) :
    PE X (.Call (.Name x p) (e :: es) [] pos) (tCall sp [] E0 t) := by
  refine ⟨fun pins s σ H Q I h => wpAny_Call_Name_kw (ld_glob I gl mgf ?_ hdb)⟩
  refine PySem.W.callWith_K (h₀ := X.base) I.ok.mod.kin kp ?_ he hpl
  refine thn (ha.run pos pins s σ H _ I h) fun us s1 z => ?_
  obtain ⟨vs, H1, I1, rv, q⟩ := z
  have q' : sp vs H1 Q E0 := by
    have z := q
    rw [List.append_nil] at z
    exact z
  have many : us.length = ps.length := rv.length.symm.trans (F.many _ _ _ _ q')
  have b1 := bd s1 us I1.kIn (by rw [List.append_nil]; exact many)
  rw [List.append_nil] at b1
  refine ⟨I1.kIn, wpAny_call (codeAny_mono (F.go X.A X.stack s1 H1 ⟨us, []⟩ us vs Q E0 quiet room I1.env0 b1 rv q') fun r s' hr => ?_)⟩
  cases r with
  | error z => exact False.elim hr
  | ok fl =>
    cases fl with
    | ret u => exact I1.after hr
    | next => exact False.elim hr
    | brk => exact False.elim hr
    | cont => exact False.elim hr

/-- repr of data at any depth -/
theorem cr_reprD (quiet : X.A.guards = some []) (room : Room k X.A) : CallR X (.builtin "repr") (fun xs H Q => ∃ (a : Addr) (d : PyData), xs = [.ref a] ∧ Dp X.K H (.ref a) d ∧ d.showable = true ∧ d.hasDict = false ∧
    d.depth ≤ 50 ∧ d.shown.length ≤ sizeLine ∧ Q (.str d.shown) H) := by
  intro pins s σ H xs us Q I r h
  obtain ⟨a, d, rfl, hd, hs, hn, hp, hz, q⟩ := h
  obtain ⟨u, rfl, rx⟩ := vals1 r
  obtain ⟨as, rd⟩ := Dp.reads I d _ u hd rx
  cases rx
  have hu := room.units
  exact repr_of_reads' rd hs (fun z => absurd (hn.symm.trans z) Bool.false_ne_true) quiet (by omega) (fun _ _ z => z) (fun h' u tk kept => ⟨.str d.shown, H, I.kept kept, ⟨u, rfl⟩, q⟩) hz
theorem cr_repr_bl : CallR X (.builtin "repr") (fun xs H Q => ∃ b : Bool, xs = [.bl b] ∧ Q (.str (if b then "True" else "False")) H) := by
  intro pins s σ H xs us Q I r h
  obtain ⟨b, rfl, q⟩ := h
  obtain ⟨u, rfl, rx⟩ := vals1 r
  cases rx
  exact PySem.P.repr_of_bool ⟨.str _, H, I.tok _, ⟨_, rfl⟩, q⟩
end
end K4
namespace K4
open PySem PySem.Spec PyProof.Rows L2

theorem law_go {P : Program} {w : World} {K : PySem.W.Frag} {mg mb : Str → Option Value} {k : Nat} {fa a : Addr} {fd : FuncData} {x : Str} {sp : Sp} {z : Shared} {vs : List Value} {ns : List Int}
    (kin : K.In z.heap) (nsG : z.heap.Ns mainGlobals mg) (nsB : z.heap.Ns builtinsNs mb) (same : ∀ y : Str, y ≠ "__name__" → mb y = bootBuiltins y) (lim : z.heap.NoLimit) (no : z.gens = #[])
    (at_ : z.heap.get? a = some { cls := .type "list", data := .seq vs.toArray }) (intsA : IntsAre vs ns) (many : ns.length ≤ sizeLine) (room : Room k callerA)
    (F : ∀ base : Heap, K.In base → base.Ns mainGlobals mg → Gn P w K mg base k fa fd [x] sp) (bind : ∀ (s : Shared) (u : Value), BindsTo s fd ⟨[u], []⟩ [(x, u)])
    (hsp : ∀ H : Hp, SqL K H a (ns.map V.int) → sp [.ref a] H (fun v _ => v = .bl true) fun _ _ _ => False) :
    codeAny (model P w) callerA (.call (.ref fa) ⟨[.ref a], []⟩) (fun r s' => r = .ok (.ret (.bool true)) ∧ OldK z.heap s'.heap ∧ s'.os = z.os ∧ AllBare s'.gens) z := by
  have rv : Vals (ns.map V.int) vs := vals_ints intsA
  have sz : (ns.map V.int).length ≤ sizeLine := by rw [List.length_map]; exact many
  -- what is tracked: the script, unless it is the module's own
  let u : HO := .frz { cls := .type "list", data := .seq vs.toArray } (.lst (ns.map V.int))
  let H : Hp := fun b => if b = a ∧ K.lookup a = none then some u else none
  have only : ∀ b o, H b = some o → b = a ∧ K.lookup a = none ∧ o = u := fun b o e => by
    by_cases c : b = a ∧ K.lookup a = none
    · have e2 : H b = some u := if_pos c
      rw [e2] at e
      exact ⟨c.1, c.2, (Option.some.inj e).symm⟩
    · have e2 : H b = none := if_neg c
      rw [e2] at e
      cases e
  have sq : SqL K H a (ns.map V.int) := by
    cases hk : K.lookup a with
    | none => exact .inl (.inr ⟨_, if_pos ⟨rfl, hk⟩⟩)
    | some o =>
      have e := kin a o hk
      rw [at_] at e
      cases e
      exact .inr ⟨_, vs.toArray, _, hk, rfl, rfl, rfl, by rw [List.size_toArray, ← rv.length]; exact sz, by simpa using rv⟩
  have hok : HOk P w H z.heap := fun b o e => by
    obtain ⟨rfl, _, rfl⟩ := only b o e
    exact ⟨at_, sz, vs, _, rv, at_⟩
  have dictFree : ∀ {b : Addr} {o : Obj} {es : Array DictEntry} {ep : Nat}, z.heap.get? b = some o → o.data = .dict es ep → H b = none := fun {b o es ep} e d => by
    cases q : H b with
    | none => rfl
    | some v =>
      obtain ⟨rfl, _, _⟩ := only b v q
      rw [at_] at e
      cases e
      cases (show Data.seq vs.toArray _ = Data.dict es ep from d)
  have nsK : ∀ {b : Addr} {m : Str → Option Value}, z.heap.Ns b m → (hidT z.heap H).Ns b m := fun {b m} q => by
    obtain ⟨o, es, ep, e, d, r⟩ := q
    exact ⟨o, es, ep, hidT_get e (dictFree e d), d, r⟩
  have kb : K.In (hidT z.heap H) := fun b o e => by
    refine hidT_get (kin b o e) ?_
    cases q : H b with
    | none => rfl
    | some v =>
      obtain ⟨rfl, n, _⟩ := only b v q
      rw [n] at e
      cases e
  have limB : (hidT z.heap H).NoLimit := by
    obtain ⟨mc, h1, h2⟩ := lim
    exact ⟨mc, nsK h1, h2⟩
  have en : Env0 P w K mg (hidT z.heap H) callerA [] z H :=
    ⟨rfl, ⟨kb, nsK nsG, ⟨mb, nsK nsB, same⟩, limB⟩, fun _ _ e => of_hidT e, Nat.le_of_eq (hidT_size _ _), trivial, (fun b hb => absurd (show b ∈ ([] : List Addr) from hb) List.not_mem_nil), hok, .of_eq no⟩
  refine codeAny_mono ((F _ kb (nsK nsG)).go callerA [] z H ⟨[.ref a], []⟩ [.ref a] [.ref a] _ _ rfl room en (bind z (.ref a)) (.cons rfl .nil) (hsp H sq)) fun r s' h => ?_
  match r, h with
  | .error e, h => exact False.elim h
  | .ok .next, h => exact False.elim h
  | .ok .brk, h => exact False.elim h
  | .ok .cont, h => exact False.elim h
  | .ok (.ret y), h =>
    obtain ⟨v, H', os, bare, un, hok', r', q⟩ := h
    obtain rfl : v = .bl true := q
    obtain rfl : y = Value.bool true := r'
    refine ⟨rfl, OldK.of_keep fun b o e => ?_, os, bare⟩
    cases q : H b with
    | none => exact un.keep b o e q (fun y => by cases y) (fun y => by cases y)
    | some v =>
      obtain ⟨rfl, _, rfl⟩ := only b v q
      have e2 := (hok' _ _ (un.frzs _ _ _ q)).1
      rw [at_] at e
      cases e
      exact e2

theorem walk_go {l : PySem.W.OpenLaw} {n k : Nat} {q : Program} {loose : List Str} {XP : (Str → Option Value) → Heap → Prop} {YP : World → Heap → Prop} {d : DefRec} {K : Params → PySem.W.Frag} {sp : PySem.W.Frag → Sp} {x : Str}
    (most : l.most = some n) (small : n ≤ sizeLine) (nodef : d.params.defaults = []) (room : Room k callerA) (hY : ∀ (w : World) (h : Heap), YP w h → (K w.params).In h)
    (F : ∀ (w : World) (mg : Str → Option Value) (fa : Addr) (h : Heap), (K w.params).In h → h.Ns mainGlobals mg → mg d.name = some (.ref fa) →
      ∃ fd : FuncData, (∀ (s : Shared) (u : Value), BindsTo s fd ⟨[u], []⟩ [(x, u)]) ∧ ∀ base : Heap, (K w.params).In base → base.Ns mainGlobals mg →
        Gn l.prog w (K w.params) mg base k fa fd [x] (sp (K w.params)))
    (hsp : ∀ (K : PySem.W.Frag) (H : Hp) (a : Addr) (ns : List Int), ns.length ≤ n → SqL K H a (ns.map V.int) → sp K [.ref a] H (fun v _ => v = .bl true) fun _ _ _ => False) :
    PySem.W.WalkO q loose XP YP l.row.toRowW d [] (fun f vs => PySem.call f vs) := by
  refine Att.attach_call most nodef fun w s₀ s₁ mg mb fa o pm cd doc a vs ns G Y _ _ _ hmg hobj hints hlen hg => ?_
  have kin := hY w _ Y
  obtain ⟨fd, hb, hF⟩ := F w mg fa _ kin G.T.g hmg
  exact law_go kin G.T.g G.T.b G.T.builtins G.T.nolimit hg hobj hints (Nat.le_trans hlen small) room hF hb fun H hS => hsp _ H a ns hlen hS
end K4
namespace K4
open PySem PySem.Spec PyProof.Rows L2

/-! ## sorted(xs, key=f), f a def of the text, xs a list or a tuple -/
/-- the items that list() would give: of a list, of a tuple -/
theorem collect_seq {prog : Program} {w : World} {A : Around} {E : Value → Shared → Prop} {s : Shared} {l : Addr} {o : Obj} {vs : List Value} {n : Nat} {T : String} {Q : List Value → Shared → Prop}
    (ho : s.heap.get? l = some o) (hT : T = "list" ∨ T = "tuple") (hc : o.cls = .type T) (hd : o.data = .seq vs.toArray n) (hz : vs.length ≤ sizeLine)
    (h : Q vs { s with heap := (s.heap.push (seqObj "list" #[] 0)).update s.heap.objs.size (Obj.mapSeq (· ++ vs.toArray)) }) : wpAny (model prog w) A (collect (.ref l)) Q E s := by
  unfold collect
  refine wpAny_bind (wpAny_runValue (codeAny_builtin entry_proto_collect' ?_))
  show wpAny _ _ (do again (.builtin "list.__iadd__" ⟨[← newList [], .ref l], []⟩)) _ _ s
  refine wpAny_bind (wpAny_newList (wpAny_pure ⟨Code.quiet_builtin _ (by decide +kernel), codeAny_builtin entry_list_iadd' ?_⟩))
  show wpAny _ _ (Builtin.List.listExtendWith (.ref s.heap.objs.size) (.ref l) (.ref s.heap.objs.size)) _ _ { s with heap := s.heap.push (seqObj "list" #[] 0) }
  unfold Builtin.List.listExtendWith
  have at_l : (s.heap.push (seqObj "list" #[] 0)).get? l = some o := Heap.get?_push_of_some _ ho
  have at_n : (s.heap.push (seqObj "list" #[] 0)).get? s.heap.objs.size = some (seqObj "list" #[] 0) := Heap.get?_push_size _ rfl
  refine wpAny_bind (wpAny_typeOf (T := T) ⟨o, at_l, hc⟩ ?_)
  have yes : (Builtin.List.listSameRef (.ref s.heap.objs.size) (.ref l) || Value.type T == Value.type "list" || Value.type T == Value.type "tuple") = true := by
    rcases hT with rfl | rfl
    · rw [show (Value.type "list" == Value.type "list") = true from rfl]
      simp
    · rw [show (Value.type "tuple" == Value.type "tuple") = true from rfl]
      simp
  rw [if_pos yes]
  refine wpAny_bind (listItems_at at_l hd ?_)
  refine wpAny_bind (listItems_at (xs := #[]) (n := 0) at_n rfl ?_)
  rw [if_neg (by simp)]
  refine wpAny_bind (listUpdate_at (xs := #[]) (n := 0) at_n rfl ?_ (Nat.zero_le _) ?_)
  · refine wpAny_pure ?_
    show wpAny (model prog w) A (do
        let ob ← load s.heap.objs.size
        match ob.data with
        | .seq xs _ => pure xs.toList
        | _ => unsupported "internal:collect") Q E { s with heap := (s.heap.push (seqObj "list" #[] 0)).update s.heap.objs.size (Obj.mapSeq (· ++ vs.toArray)) }
    refine wpAny_bind (wpAny_load (get?_update_seq at_n _) ?_)
    have e : ((#[] : Array Value) ++ vs.toArray).toList = vs := by simp
    show wpAny _ _ (pure ((#[] : Array Value) ++ vs.toArray).toList) Q E _
    rw [e]
    exact wpAny_pure h
  · show (#[] ++ vs.toArray).size ≤ sizeLine + 1
    simp only [Array.size_append, List.size_toArray, List.length_nil]
    omega

/-- sorted(xs, ..) is the sort of a new list -/
theorem sorted_seq {prog : Program} {w : World} {A : Around} {E : Value → Shared → Prop} {s : Shared} {l : Addr} {o : Obj} {vs : List Value} {n : Nat} {T : String} {kw : List (Str × Value)} {Q : Value → Shared → Prop}
    (ho : s.heap.get? l = some o) (hT : T = "list" ∨ T = "tuple") (hc : o.cls = .type T) (hd : o.data = .seq vs.toArray n) (hz : vs.length ≤ sizeLine)
    (ha1 : argsOk "sorted" ⟨[.ref l], kw⟩) (ha2 : ∀ x, argsOk "list.sort" ⟨[.ref x], kw⟩)
    (body : ∀ E' : Value → Shared → Prop, wpAny (model prog w) A.in1.in1 (Builtin.«list.sort» ⟨[.ref (s.heap.objs.size + 1)], kw⟩)
      (fun f s' => f = .done (.ret .none) ∧ Q (.ref (s.heap.objs.size + 1)) s') E' { s with heap := PySem.W.copyHeap s.heap vs }) :
    wpAny (model prog w) A (call (.builtin "sorted") [.ref l] kw) Q E s := by
  refine PyProof.Rows.call_function_entry_kw kind_sorted plain_sorted entry_sorted ha1 ?_
  unfold Builtin.«sorted»
  refine wpAny_bind (m := checkCount "sorted" 1 1 _) (wpAny_pure ?_)
  refine wpAny_bind (collect_seq ho hT hc hd hz (wpAny_bind (wpAny_newList ?_ hz)))
  have sz : ((s.heap.push (seqObj "list" #[] 0)).update s.heap.objs.size (Obj.mapSeq (· ++ vs.toArray))).objs.size = s.heap.objs.size + 1 := by
    rw [Heap.size_update, size_push']
  show wpAny _ _ _ _ _ { s with heap := PySem.W.copyHeap s.heap vs }
  rw [sz]
  refine wpAny_bind (wpAny_holding (wpAny_call_entry_kw slot_list_sort ⟨_, PySem.W.copyHeap_at s.heap vs, rfl⟩ entry_list_sort ?body (ha2 _)))
  case body =>
    refine wpAny_mono (body _) (fun f s' hf => ?_) fun _ _ e => e
    obtain ⟨rfl, hq⟩ := hf
    exact ⟨_, rfl, wpAny_pure ⟨_, rfl, hq⟩⟩
end K4
namespace K4
open PySem PySem.Spec PyProof.Rows L2

theorem sqT_same {K : PySem.W.Frag} {H H' : Hp} (s : Same H H') {t : Addr} {xs : List V} (q : SqT K H t xs) : SqT K H' t xs := by
  rcases q with (q | ⟨o, q⟩) | q
  · exact .inl (.inl (s _ _ q))
  · exact .inl (.inr ⟨o, s _ _ q⟩)
  · exact .inr q
section
variable {K : PySem.W.Frag} {H H' : Hp}
mutual
theorem dp_same (s : Same H H') : ∀ (d : PyData) (v : V), Dp K H v d → Dp K H' v d
  | .none, _, h => by
    cases h
    exact .non
  | .bool b, _, h => by
    cases h
    exact .bl b
  | .int i, _, h => by
    cases h
    exact .int i
  | .str x, _, h => by
    cases h
    exact .str x
  | .list ds, _, h => by
    cases h with
    | lst q r => exact .lst (s.seq q) (dpAll_same s ds _ r)
  | .tuple ds, _, h => by
    cases h with
    | tup q r => exact .tup (sqT_same s q) (dpAll_same s ds _ r)
  | .dict _, _, h => by cases h
theorem dpAll_same (s : Same H H') : ∀ (ds : List PyData) (vs : List V), DpAll K H vs ds → DpAll K H' vs ds
  | [], _, h => by
    cases h
    exact .nil
  | d :: ds, _, h => by
    cases h with
    | cons q r => exact .cons (dp_same s d _ q) (dpAll_same s ds _ r)
end
end

section
variable {X : Cx} {pins : List (Addr × Obj)} {σ : L2.St} {H : Hp}
/-- what stands beside the heap's own things, behind a call -/
theorem fp_on {H' : Hp} {b : Addr} (f : FpOk X pins H b) (n : H' b = none) : FpOk X pins H' b := ⟨n, f.2⟩
theorem fp_stack {s : Shared} {b : Addr} (I : Inv X pins σ H s) (f : FpOk X pins H b) : b ∉ frs X.stack := fun z => by
  rcases List.mem_cons.mp (I.stkSub b z) with e | e
  · exact f.2.1 e
  · exact f.2.2.1 e

/-- an object of nobody's becomes a list of ours, another is let go -/
theorem Inv.take {s : Shared} {h' : Heap} {a kS : Addr} {ys : List V} {out : List Value} {c t' : Nat} (I : Inv X pins σ H s) (fa : FpOk X pins H a) (fk : FpOk X pins H kS) (keep : ∀ b o, b ≠ a → b ≠ kS → s.heap.get? b = some o → h'.get? b = some o)
    (hz : ys.length ≤ sizeLine) (rv : Vals ys out) (na : h'.get? a = some (seqObj "list" out.toArray c)) : Inv X pins σ (upd H a (.lst ys)) { s with heap := h', toks := t' } := by
  have ne : ∀ b o, H b = some o → b ≠ a ∧ b ≠ kS := fun b o e => ⟨ne_of_none e fa.1, ne_of_none e fk.1⟩
  have off : ∀ {b : Addr}, b ∉ [a, kS] → b ≠ a ∧ b ≠ kS := fun {b} z => ⟨fun q => z (by simp [q]), fun q => z (by simp [q])⟩
  have u : Un (frs X.stack) [a, kS] H (upd H a (.lst ys)) s.heap h' := by
    refine ⟨fun b o e n _ hx => keep b o (off hx).1 (off hx).2 e, fun b o e n _ hx => ⟨o.slots, keep b o (off hx).1 (off hx).2 e⟩, fun b o e n hx => ?_, fun b o e hx => ⟨o, keep b o (off hx).1 (off hx).2 e⟩, fun b zs e => ?_, fun b o z e => ?_, fun b ps e => ⟨#[], ?_⟩⟩
    · rw [upd_ne (off hx).1]
      exact n
    · rw [upd_ne (ne _ _ e).1]
      exact e
    · rw [upd_ne (ne _ _ e).1]
      exact e
    · rw [upd_ne (ne _ _ e).1, e]
      simp
  have ok : HOk X.prog X.w (upd H a (.lst ys)) h' := fun b o e => by
    by_cases hb : b = a
    · subst hb
      rw [upd_same] at e
      cases e
      exact ⟨hz, out, c, rv, na⟩
    · rw [upd_ne hb] at e
      refine (I.hok b o e).stay (fun z v hz' q => ?_) (fun z q => ?_) fun z zs q => ?_
      · have nz : z ≠ a ∧ z ≠ kS := by
          rcases hz' with e1 | e1
          · rw [e1]
            exact ne _ _ e
          · exact ne _ _ e1
        exact keep z v nz.1 nz.2 q
      · rw [upd_ne (ne _ _ q).1]
        exact q
      · rw [upd_ne (ne _ _ q).1]
        exact q
  refine I.call (g' := s.gens) (d' := s.drawn) (t' := t') (ch := [a, kS]) u ok I.bare fun b hb => ?_
  rcases List.mem_cons.mp hb with e | e
  · rw [e]
    exact ⟨fa.2.2.2.1, fa.2.1, fa.2.2.2.2.1, fa.2.2.2.2.2⟩
  · rw [List.mem_singleton.mp e]
    exact ⟨fk.2.2.2.1, fk.2.1, fk.2.2.2.2.1, fk.2.2.2.2.2⟩

theorem vals_each : ∀ {xs : List V} {vs : List Value}, Vals xs vs → PySem.W.EachIs (fun v x => RelV x v) vs xs
  | _, _, .nil => .nil
  | _, _, .cons r t => .cons r (vals_each t)
theorem each_vals : ∀ {xs : List V} {vs : List Value}, PySem.W.EachIs (fun v x => RelV x v) vs xs → Vals xs vs
  | _, _, .nil => .nil
  | _, _, .cons r t => .cons r (each_vals t)
end
end K4
namespace K4
open PySem PySem.Spec PyProof.Rows L2
section
variable {X : Cx} {pins : List (Addr × Obj)} {σ : L2.St} {H : Hp} {k : Nat} {f : Addr} {fd : FuncData} {ps : List Str} {sp : Sp} {kd : V → PyData} {xs : List V}

/-- what the key's def promises of the items -/
def KeyOk (X : Cx) (sp : Sp) (H : Hp) (xs : List V) (kd : V → PyData) : Prop :=
  ∀ (H' : Hp) (Q : VK), Same H H' → ∀ x ∈ xs, (∀ v H2, Same H' H2 → Dp X.K H2 v (kd x) → Q v H2) → sp [x] H' Q E0

theorem each_get {α β : Type} {R : α → β → Prop} : ∀ {as : List α} {bs : List β} {i : Nat} {a : α}, PySem.W.EachIs R as bs → as[i]? = some a → ∃ b, bs[i]? = some b ∧ R a b
  | _, _, _, _, .nil, e => by simp at e
  | _, _, 0, _, .cons r _, e => by
    simp at e
    subst e
    exact ⟨_, rfl, r⟩
  | _, _, i + 1, a, .cons _ t, e => by
    obtain ⟨b, h1, h2⟩ := each_get (i := i) (a := a) t (by simpa using e)
    exact ⟨b, by simpa using h1, h2⟩
theorem each_more {α β : Type} {R : α → β → Prop} : ∀ {as : List α} {bs : List β} {a : α} {b : β}, PySem.W.EachIs R as bs → R a b → PySem.W.EachIs R (as ++ [a]) (bs ++ [b])
  | _, _, _, _, .nil, r => .cons r .nil
  | _, _, _, _, .cons q t, r => .cons q (each_more t r)
theorem each_mono {α β : Type} {R S : α → β → Prop} (h : ∀ a b, R a b → S a b) : ∀ {as : List α} {bs : List β}, PySem.W.EachIs R as bs → PySem.W.EachIs S as bs
  | _, _, .nil => .nil
  | _, _, .cons r t => .cons (h _ _ r) (each_mono h t)
theorem each_len {α β : Type} {R : α → β → Prop} : ∀ {as : List α} {bs : List β}, PySem.W.EachIs R as bs → as.length = bs.length
  | _, _, .nil => rfl
  | _, _, .cons _ t => congrArg Nat.succ (each_len t)

theorem keyI_rest {A : Around} {E : Value → Shared → Prop} {s : Shared} {a kS : Addr} {e1 : Nat} {vs : List Value} {P : PySem.Fin → Shared → Prop} (fr : A.frames = some X.stack) (room : Room k A)
    (F : FnOk X.prog X.w X.K X.mg X.base CX0 k f fd ps sp) (bd : Binds X.K fd ps []) (ok : KeyOk X sp H xs kd) (I : Inv X pins σ H s) (fa : FpOk X pins H a) (fk : FpOk X pins H kS) (hka : kS ≠ a) (rv : Vals xs vs)
    (nk : s.heap.get? kS = some (seqObj "list" #[] 0)) (na : s.heap.get? a = some (seqObj "list" #[] e1)) (hz : vs.length ≤ sizeLine)
    (hal : PySem.W.AllAlike (xs.map kd)) (hsk : PySem.W.Sortable (xs.map kd)) (hu : ∀ d, d ∈ xs.map kd → A.units + d.depth < cLine)
    (h : ∀ s' H', Inv X pins σ (upd H' a (.lst (xs.mergeSort (PySem.W.dataLe false kd)))) s' → Same H H' → H' a = none → P (.done (.ret .none)) s') :
    wpAny (model X.prog X.w) A (ksk_rest a (.ref f) false vs.toArray e1 (.ref kS)) P E s := by
  have hlen : xs.length = vs.length := rv.length
  unfold ksk_rest
  refine wpAny_bind (wpAny_rule ?_)
  rw [List.forIn_toArray]
  refine wpAny_bind (ksk_fold (fun i s' => ∃ (H' : Hp) (kA : Array Value) (e : Nat), Inv X pins σ H' s' ∧ Same H H' ∧ H' kS = none ∧ H' a = none ∧ s'.heap.get? kS = some (seqObj "list" kA e) ∧ s'.heap.get? a = some (seqObj "list" #[] e1) ∧
    PySem.W.EachIs (fun v d => ∃ y, RelV y v ∧ Dp X.K H' y d) kA.toList ((xs.map kd).take i)) vs 0 s ⟨H, #[], 0, I, Same.refl H, fk.1, fa.1, nk, na, by rw [List.take_zero]; exact .nil⟩ ?step ?done)
  case step =>
    rintro j u s1 hx ⟨H1, kA, e, I1, sm, hk0, ha0, nk1, na1, hks⟩
    simp only [Nat.zero_add] at hks ⊢
    obtain ⟨x, hxj, rx⟩ := each_get (vals_each rv) hx
    have hxm : x ∈ xs := List.mem_of_getElem? hxj
    have fk1 := fp_on fk hk0
    have fa1 := fp_on fa ha0
    have hsp := ok H1 (fun v H2 => Same H1 H2 ∧ Dp X.K H2 v (kd x)) sm x hxm fun v H2 s2 d2 => ⟨s2, d2⟩
    have en : Env0 X.prog X.w X.K X.mg X.base A X.stack s1 H1 := by
      have z := I1.env0
      exact ⟨fr, z.mod, z.bs, z.bsz, z.funs, z.frf, z.hok, z.bare⟩
    have hl1 : [x].length = ps.length := F.len _ _ _ _ hsp
    have b1 := bd s1 [u] I1.kIn (by simpa using hl1)
    rw [List.append_nil] at b1
    have hkz : kA.size ≤ vs.length := by
      have z := each_len hks
      rw [Array.length_toList, List.length_take, List.length_map] at z
      omega
    refine wpAny_bind (wpAny_attempt (wpAny_call (codeAny_mono (F.run A X.stack s1 H1 ⟨[u], []⟩ [u] [x] _ E0 room en b1 (.cons rx .nil) hsp) fun r s2 hr => ?_)))
    match r, hr with
    | .error z, hr => exact False.elim hr
    | .ok .next, hr => exact False.elim hr
    | .ok .brk, hr => exact False.elim hr
    | .ok .cont, hr => exact False.elim hr
    | .ok (.ret v), hr =>
      obtain ⟨y, H2, os, bare, un, hok, ry, sm2, dp2⟩ := hr
      obtain ⟨h2, g2, d2, t2, os2⟩ := s2
      obtain rfl : os2 = s1.os := os
      have I2 : Inv X pins σ H2 _ := I1.call (h' := h2) (g' := g2) (d' := d2) (t' := t2) (ch := []) un hok bare fun b z => absurd z List.not_mem_nil
      have nk2 : h2.get? kS = some (seqObj "list" kA e) := un.keep _ _ nk1 hk0 (fp_stack I1 fk1) List.not_mem_nil
      have na2 : h2.get? a = some (seqObj "list" #[] e1) := un.keep _ _ na1 ha0 (fp_stack I1 fa1) List.not_mem_nil
      have hk2 : H2 kS = none := un.free _ _ nk1 hk0 List.not_mem_nil
      have ha2 : H2 a = none := un.free _ _ na1 ha0 List.not_mem_nil
      have sb := Heap.SameBut.update h2 kS (Obj.mapSeq (·.push v))
      obtain ⟨c2, hc2⟩ : ∃ c2, (h2.update kS (Obj.mapSeq (·.push v))).get? kS = some (seqObj "list" (kA.push v) c2) := ⟨_, get?_update_seq nk2 (·.push v)⟩
      refine wpAny_bind (listUpdate_at (s := ⟨h2, g2, d2, t2, s1.os⟩) nk2 rfl ?_ (Nat.le_trans hkz hz) (by rw [Array.size_push]; omega))
      refine wpAny_pure ⟨rfl, H2, kA.push v, c2, ?_, sm.trans sm2, hk2, ha2, hc2, (sb.2 a hka.symm).trans na2, ?_⟩
      · refine Inv.turnedL (ch := [kS]) (t' := t2) I2 (fun b o hb q => (sb.2 b fun z => hb (by simp [z])).trans q) fun b hb => ?_
        rw [List.mem_singleton.mp hb]
        exact fp_on fk1 hk2
      · have ek : (xs.map kd).take (j + 1) = (xs.map kd).take j ++ [kd x] := by
          rw [List.take_add_one, List.getElem?_map, hxj]
          rfl
        rw [ek, Array.toList_push]
        refine each_more (each_mono (fun w d q => ?_) hks) ⟨y, ry, dp2⟩
        obtain ⟨z, rz, dz⟩ := q
        exact ⟨z, rz, dp_same sm2 _ _ dz⟩
  case done =>
    rintro s1 ⟨H1, kA, e, I1, sm, hk0, ha0, nk1, na1, hks⟩
    rw [Nat.zero_add, List.take_of_length_le (by rw [List.length_map]; omega)] at hks
    have hk' : PySem.W.EachIs (fun v d => ∃ as, Reads s1.heap v d as) kA.toList (xs.map kd) := each_mono (fun v d q => by
      obtain ⟨y, ry, dy⟩ := q
      exact Dp.reads I1 d y v dy ry) hks
    have hsz : kA.size = vs.length := by
      have z := each_len hk'
      rw [Array.length_toList, List.length_map] at z
      omega
    -- all but the list of the keys
    let Hk : Hp := upd (fun _ => none) kS (.lst [])
    have hidK : (hidT s1.heap Hk).get? kS = none := by
      cases q : (hidT s1.heap Hk).get? kS with
      | none => rfl
      | some o =>
        have z := (of_hidT q).2
        rw [show Hk kS = some (.lst []) from upd_same] at z
        cases z
    refine wpAny_bind (listItems_at nk1 rfl ?_)
    refine PySem.W.keyH_end (κ := PySem.W.dataKind s1.heap (xs.map kd)) (h₁ := hidT s1.heap Hk) (fun b o _ q => (of_hidT q).1) hidK nk1 na1 hka (PySem.W.SortsAt.data hk' hal hsk hu) hsz hz fun h3 tk3 c k3 n3 => ?_
    have each := PySem.W.keyedOut_each (rev := false) (out := PySem.W.sortVals (PySem.W.dataKind s1.heap (xs.map kd)) false kA.toList vs) kd (vs := vs) ⟨s1.heap, kA.toList, hal, rfl, hk'⟩ (vals_each rv)
    have I3 := Inv.take (t' := tk3) (kS := kS) (h' := h3) (c := c) I1 (fp_on fa ha0) (fp_on fk hk0) (fun b o hb hb2 q => k3 b o hb (hidT_get q (by rw [show Hk b = none from by show upd _ _ _ _ = _; rw [upd_ne hb2]]))) ?_ (each_vals each) n3
    · exact h _ H1 I3 sm ha0
    · rw [List.length_mergeSort]
      omega
end
end K4
namespace K4
open PySem PySem.Spec PyProof.Rows L2
section
variable {X : Cx} {k : Nat} {f : Addr} {fd : FuncData} {ps : List Str} {sp : Sp}
def rSortBy (X : Cx) (f : Addr) (sp : Sp) : List V → List V → Hp → VK → Prop := fun vs zs H Q => ∃ (l : Addr) (xs : List V) (kd : V → PyData), vs = [.ref l] ∧ zs = [.ref f] ∧ (SqL X.K H l xs ∨ SqT X.K H l xs) ∧
  KeyOk X sp H xs kd ∧ PySem.W.AllAlike (xs.map kd) ∧ PySem.W.Sortable (xs.map kd) ∧ (∀ x ∈ xs, (kd x).depth ≤ 50) ∧ ∀ H' a, Same H H' → H' a = none → Q (.ref a) (upd H' a (.lst (xs.mergeSort (PySem.W.dataLe false kd))))

theorem cr_sortBy (room : Room (k + 2) X.A) (F : FnOk X.prog X.w X.K X.mg X.base CX0 k f fd ps sp) (bd : Binds X.K fd ps []) : CallRK X (.builtin "sorted") [Str.ofString "key"] (rSortBy X f sp) := by
  intro pins s σ H vs zs us ws Q I rv rz h
  obtain ⟨l, xs, kd, rfl, rfl, hq, ok, hal, hsk, hdp, q⟩ := h
  obtain ⟨u, rfl, ru⟩ := vals1 rv
  obtain ⟨w, rfl, rw'⟩ := vals1 rz
  cases ru
  cases rw'
  obtain ⟨T, o, its, n, hT, ho, hc, hd, rx, hz⟩ : ∃ (T : String) (o : Obj) (its : List Value) (n : Nat), (T = "list" ∨ T = "tuple") ∧ s.heap.get? l = some o ∧ o.cls = .type T ∧ o.data = .seq its.toArray n ∧ Vals xs its ∧ its.length ≤ sizeLine := by
    rcases hq with hq | hq
    · obtain ⟨its, r, ⟨o, n, ho, hc, _, hd⟩, hz⟩ := I.list hq
      exact ⟨"list", o, its, n, .inl rfl, ho, hc, hd, r, by rw [← r.length]; exact hz⟩
    · obtain ⟨its, r, ⟨o, ho, hc, n, hd⟩, hz⟩ := I.tuple hq
      exact ⟨"tuple", o, its, n, .inr rfl, ho, hc, hd, r, by rw [← r.length]; exact hz⟩
  have hu := room.units
  refine sorted_seq ho hT hc hd hz (ksk_s1 _ _) (fun _ => ksk_l1 _ _) fun E' => ?_
  show wpAny _ _ (Builtin.«list.sort» ⟨[.ref (s.heap.objs.size + 1)], [(Str.ofString "key", .ref f)]⟩) _ _ _
  rw [ksk_t1]
  unfold ksk_tree
  have na0 := PySem.W.copyHeap_at s.heap its
  obtain ⟨e1, na1⟩ : ∃ e1, ((PySem.W.copyHeap s.heap its).update (s.heap.objs.size + 1) (Obj.mapSeq fun _ => (#[] : Array Value))).get? (s.heap.objs.size + 1) = some (seqObj "list" #[] e1) := ⟨_, get?_update_seq na0 fun _ => #[]⟩
  have sb := Heap.SameBut.update (PySem.W.copyHeap s.heap its) (s.heap.objs.size + 1) (Obj.mapSeq fun _ => (#[] : Array Value))
  refine wpAny_bind (listItems_at na0 rfl ?_)
  refine wpAny_bind (listUpdate_at na0 rfl ?_ (by rw [List.size_toArray]; exact hz) (Nat.zero_le _))
  refine wpAny_bind (seqEpoch_at na1 rfl ?_)
  refine wpAny_bind (wpAny_newTuple ?_ (by show its.length ≤ _; exact hz))
  refine wpAny_bind (wpAny_newList ?_ (Nat.zero_le _))
  refine wpAny_holding ?_
  have old : ∀ b o, s.heap.get? b = some o → ((((PySem.W.copyHeap s.heap its).update (s.heap.objs.size + 1) (Obj.mapSeq fun _ => (#[] : Array Value))).push (seqObj "tuple" its.toArray 0)).push (seqObj "list" #[] 0)).get? b = some o := fun b o e =>
    Heap.get?_push_of_some _ (Heap.get?_push_of_some _ ((sb.2 b (Nat.ne_of_lt (Nat.lt_succ_of_lt (Heap.lt_size e)))).trans (PySem.W.copyHeap_old e)))
  have big : s.heap.objs.size + 1 < (PySem.W.copyHeap s.heap its).objs.size := Heap.lt_size na0
  have hkS : (((PySem.W.copyHeap s.heap its).update (s.heap.objs.size + 1) (Obj.mapSeq fun _ => (#[] : Array Value))).push (seqObj "tuple" its.toArray 0)).objs.size = (PySem.W.copyHeap s.heap its).objs.size + 1 := by rw [size_push', Heap.size_update]
  have ltS : s.heap.objs.size + 1 < (((PySem.W.copyHeap s.heap its).update (s.heap.objs.size + 1) (Obj.mapSeq fun _ => (#[] : Array Value))).push (seqObj "tuple" its.toArray 0)).objs.size := by
    rw [hkS]
    omega
  have le1 : s.heap.objs.size ≤ s.heap.objs.size + 1 := Nat.le_succ _
  have le2 : s.heap.objs.size ≤ (((PySem.W.copyHeap s.heap its).update (s.heap.objs.size + 1) (Obj.mapSeq fun _ => (#[] : Array Value))).push (seqObj "tuple" its.toArray 0)).objs.size := by rw [hkS]; omega
  refine keyI_rest (A := X.A.in1.in1) (E := E') (by show X.A.frames = some X.stack; exact I.ok.frames) room.in1.in1 F bd ok (I.kept (t' := s.toks) old) (I.fpOk le1 (I.hok.fresh le1)) (I.fpOk le2 (I.hok.fresh le2)) (Nat.ne_of_gt ltS) rx
    (Heap.get?_push_size _ rfl) (Heap.get?_push_of_some _ (Heap.get?_push_of_some _ na1)) hz hal hsk (fun d hd' => ?_) fun s' H' I' sm ha => ⟨rfl, ?_⟩
  · obtain ⟨x, hx, rfl⟩ := List.mem_map.mp hd'
    have := hdp x hx
    show X.A.units + 1 + 1 + (kd x).depth < cLine
    omega
  · exact ⟨.ref _, _, I', rfl, q H' _ sm ha⟩
end
end K4
namespace K4
open PySem PySem.Spec PyProof.Rows L2

def top (i : Nat) : Stmt := PySem.Challenge.pw_takesworks_k04_days_in_order.main.body.getD i (.Pass ⟨0, 0, 0, 0⟩)
abbrev sInit : Stmt := inClass (top 14) 0
abbrev sWhole : Stmt := top 4
abbrev sWithin : Stmt := top 5
abbrev sLeap : Stmt := top 11
abbrev sDaysIn : Stmt := top 12
abbrev sMakes : Stmt := top 13
abbrev sEarliest : Stmt := top 15
abbrev sLatest : Stmt := top 16
abbrev sPartsOf : Stmt := top 17
abbrev sPlace : Stmt := top 18
abbrev sByDay : Stmt := top 19
abbrev sHand : Stmt := top 21
abbrev sTake : Stmt := top 22
abbrev sPick : Stmt := top 23
abbrev sLast : Stmt := top 24
abbrev sParts : Stmt := top 25
abbrev sReach : Stmt := top 26
abbrev sDrawn : Stmt := top 27
abbrev sPut : Stmt := top 28
abbrev sTold : Stmt := top 29
abbrev sRight : Stmt := top 30
abbrev sLaw : Stmt := top 31
theorem scWhole : FnScope ["thing"] ["thing"] (defScope sWhole) := ⟨rfl, rfl, rfl, by decide +kernel, rfl, by decide +kernel, by decide +kernel⟩
theorem scWithin : FnScope ["thing", "least", "most"] ["thing", "least", "most"] (defScope sWithin) := ⟨rfl, rfl, rfl, by decide +kernel, rfl, by decide +kernel, by decide +kernel⟩
theorem scLeap : FnScope ["year"] ["year"] (defScope sLeap) := ⟨rfl, rfl, rfl, by decide +kernel, rfl, by decide +kernel, by decide +kernel⟩
theorem scDaysIn : FnScope ["year", "month"] ["year", "month"] (defScope sDaysIn) := ⟨rfl, rfl, rfl, by decide +kernel, rfl, by decide +kernel, by decide +kernel⟩
theorem scMakes : FnScope ["year", "month", "day"] ["year", "month", "day"] (defScope sMakes) := ⟨rfl, rfl, rfl, by decide +kernel, rfl, by decide +kernel, by decide +kernel⟩
theorem scInit : FnScope ["self", "year", "month", "day"] ["self", "year", "month", "day"] (defScope sInit) := ⟨rfl, rfl, rfl, by decide +kernel, rfl, by decide +kernel, by decide +kernel⟩
theorem scEarliest : FnScope ["day", "month"] ["day"] (defScope sEarliest) := ⟨rfl, rfl, rfl, by decide +kernel, rfl, by decide +kernel, by decide +kernel⟩
theorem scLatest : FnScope ["day", "month"] ["day"] (defScope sLatest) := ⟨rfl, rfl, rfl, by decide +kernel, rfl, by decide +kernel, by decide +kernel⟩
theorem scPartsOf : FnScope ["day"] ["day"] (defScope sPartsOf) := ⟨rfl, rfl, rfl, by decide +kernel, rfl, by decide +kernel, by decide +kernel⟩
theorem scPlace : FnScope ["day"] ["day"] (defScope sPlace) := ⟨rfl, rfl, rfl, by decide +kernel, rfl, by decide +kernel, by decide +kernel⟩
theorem scByDay : FnScope ["days", "down", "rising"] ["days", "down"] (defScope sByDay) := ⟨rfl, rfl, rfl, by decide +kernel, rfl, by decide +kernel, by decide +kernel⟩
theorem scHand : FnScope ["_law_script", "_law_k", "_law_cell", "_law_great"] ["_law_script", "_law_k"] (defScope sHand) := ⟨rfl, rfl, rfl, by decide +kernel, rfl, by decide +kernel, by decide +kernel⟩
theorem scTake : FnScope ["_law_hand_here", "_law_many", "_law_digit", "_law_mixed"] ["_law_hand_here", "_law_many"] (defScope sTake) := ⟨rfl, rfl, rfl, by decide +kernel, rfl, by decide +kernel, by decide +kernel⟩
theorem scPick : FnScope ["_law_hand_here", "_law_some"] ["_law_hand_here", "_law_some"] (defScope sPick) := ⟨rfl, rfl, rfl, by decide +kernel, rfl, by decide +kernel, by decide +kernel⟩
theorem scLast : FnScope ["_law_y", "_law_m", "_law_fourth", "_law_hundredth"] ["_law_y", "_law_m"] (defScope sLast) := ⟨rfl, rfl, rfl, by decide +kernel, rfl, by decide +kernel, by decide +kernel⟩
theorem scParts : FnScope ["_law_hand_here", "_law_some", "_law_y", "_law_tells", "_law_m", "_law_last_here", "_law_d"] ["_law_hand_here"] (defScope sParts) := ⟨rfl, rfl, rfl, by decide +kernel, rfl, by decide +kernel, by decide +kernel⟩
theorem scReach : FnScope ["_law_parts_here", "_law_y", "_law_m", "_law_d", "_law_end"] ["_law_parts_here"] (defScope sReach) := ⟨rfl, rfl, rfl, by decide +kernel, rfl, by decide +kernel, by decide +kernel⟩
theorem scDrawn : FnScope ["_law_hand_here", "_law_many", "_law_found", "_law_base", "_law_k", "_law_parts_here", "_law_y", "_law_m", "_law_near"] ["_law_hand_here"] (defScope sDrawn) := ⟨rfl, rfl, rfl, by decide +kernel, rfl, by decide +kernel, by decide +kernel⟩
theorem scPut : FnScope ["_law_parts_here", "_law_order", "_law_at", "_law_one"] ["_law_parts_here", "_law_order"] (defScope sPut) := ⟨rfl, rfl, rfl, by decide +kernel, rfl, by decide +kernel, by decide +kernel⟩
theorem scTold : FnScope ["_law_some", "_law_d"] ["_law_some"] (defScope sTold) := ⟨rfl, rfl, rfl, by decide +kernel, rfl, by decide +kernel, by decide +kernel⟩
theorem scRight : FnScope ["_law_hand_here", "_law_drawn_here", "_law_order", "_law_parts_here", "_law_some", "_law_handed", "_law_found", "_law_y", "_law_m", "_law_d"] ["_law_hand_here"] (defScope sRight) := ⟨rfl, rfl, rfl, by decide +kernel, rfl, by decide +kernel, by decide +kernel⟩
theorem scLaw : FnScope ["_law_script", "_law_k"] ["_law_script"] (defScope sLaw) := ⟨rfl, rfl, rfl, by decide +kernel, rfl, by decide +kernel, by decide +kernel⟩
/-! ## the mathematics -/
def leap (y : Int) : Bool := decide (y % 4 = 0) && (decide (y % 100 ≠ 0) || decide (y % 400 = 0))
def lastDay (y m : Int) : Int := if m = 4 ∨ m = 6 ∨ m = 9 ∨ m = 11 then 30 else if m ≠ 2 then 31 else if leap y = true then 29 else 28
theorem lastDay_ge (y m : Int) : 28 ≤ lastDay y m ∧ lastDay y m ≤ 31 := by
  unfold lastDay
  split
  · omega
  · split
    · omega
    · split <;> omega
/-- the parts of a day -/
def Good (y : Int) (m d : Option Int) : Prop := 1 ≤ y ∧ y ≤ 9999 ∧ match m with
  | none => d = none
  | some i => 1 ≤ i ∧ i ≤ 12 ∧ match d with
    | none => True
    | some j => 1 ≤ j ∧ j ≤ lastDay y i
def oV : Option Int → V
  | none => .non
  | some i => .int i
def oD : Option Int → PyData
  | none => .none
  | some i => .int i
/-- two parts alike, or one not told -/
def uoa : Option Int → Option Int → Bool
  | some i, some j => decide (i = j)
  | _, _ => true
def mayB (y : Int) (m d : Option Int) (y' : Int) (m' d' : Option Int) : Bool := decide (y = y') && uoa m m' && uoa d d'
theorem uoa_comm (a b : Option Int) : uoa a b = uoa b a := by
  cases a <;> cases b <;> simp [uoa, eq_comm]
theorem mayB_comm (y : Int) (m d : Option Int) (y' : Int) (m' d' : Option Int) : mayB y m d y' m' d' = mayB y' m' d' y m d := by
  unfold mayB
  rw [uoa_comm m, uoa_comm d]
  simp [eq_comm]
theorem uoa_self (a : Option Int) : uoa a a = true := by cases a <;> simp [uoa]
theorem uoa_some (a : Option Int) (i : Int) : uoa a (some (a.getD i)) = true := by cases a <;> simp [uoa]

/-! ## objects -/
/-- all that was tracked stands but for the hand -/
def But (h : Addr) (H H' : Hp) : Prop := ∀ b o, b ≠ h → H b = some o → H' b = some o
theorem But.refl (h : Addr) (H : Hp) : But h H H := fun _ _ _ e => e
theorem But.trans {h : Addr} {H H1 H2 : Hp} (p : But h H H1) (q : But h H1 H2) : But h H H2 := fun b o n e => q b o n (p b o n e)
theorem Same.but {H H' : Hp} (s : Same H H') (h : Addr) : But h H H' := fun b o _ e => s b o e
theorem But.seqT {K : PySem.W.Frag} {h : Addr} {H H' : Hp} (s : But h H H') {t : Addr} {xs : List V} (n : t ≠ h) (q : SqT K H t xs) : SqT K H' t xs := by
  rcases q with (q | ⟨o, q⟩) | q
  · exact .inl (.inl (s _ _ n q))
  · exact .inl (.inr ⟨o, s _ _ n q⟩)
  · exact .inr q
theorem But.seqL {K : PySem.W.Frag} {h : Addr} {H H' : Hp} (s : But h H H') {t : Addr} {xs : List V} (n : t ≠ h) (q : SqL K H t xs) : SqL K H' t xs := by
  rcases q with (q | ⟨o, q⟩) | q
  · exact .inl (.inl (s _ _ n q))
  · exact .inl (.inr ⟨o, s _ _ n q⟩)
  · exact .inr q
theorem Same.seqT {K : PySem.W.Frag} {H H' : Hp} (s : Same H H') {t : Addr} {xs : List V} (q : SqT K H t xs) : SqT K H' t xs := by
  rcases q with (q | ⟨o, q⟩) | q
  · exact .inl (.inl (s _ _ q))
  · exact .inl (.inr ⟨o, s _ _ q⟩)
  · exact .inr q
theorem same_upd {H : Hp} {p : Addr} {o : HO} (h : H p = none) : Same H (upd H p o) := fun b x e => by
  rw [upd_ne (ne_of_none e h)]
  exact e
theorem but_upd {H : Hp} {p : Addr} {o : HO} : But p H (upd H p o) := fun b x n e => by
  rw [upd_ne n]
  exact e
/-- the hand: what is left of the cell, what it is mixed of, how often it was asked -/
def Hand (n : Int) (H : Hp) (a : Addr) : Prop := ∃ g m c : Int, H a = some (.lst [.int g, .int m, .int c]) ∧ 0 ≤ g ∧ 0 ≤ m ∧ m < 2305843009213693951 ∧ 0 ≤ c ∧ c ≤ n
theorem Hand.mono {n n' : Int} {H : Hp} {a : Addr} (h : Hand n H a) (l : n ≤ n') : Hand n' H a := by
  obtain ⟨g, m, c, e, h1, h2, h3, h4, h5⟩ := h
  exact ⟨g, m, c, e, h1, h2, h3, h4, Int.le_trans h5 l⟩
theorem Hand.same {n : Int} {H H' : Hp} {a : Addr} (h : Hand n H a) (s : Same H H') : Hand n H' a := by
  obtain ⟨g, m, c, e, r⟩ := h
  exact ⟨g, m, c, s _ _ e, r⟩
theorem Hand.at_ {n : Int} {H : Hp} {a : Addr} (h : Hand n H a) : ∃ xs, H a = some (.lst xs) := by
  obtain ⟨g, m, c, e, r⟩ := h
  exact ⟨_, e⟩
theorem Hand.ne_tup {K : PySem.W.Frag} {n : Int} {H : Hp} {a t : Addr} {xs : List V} (h : Hand n H a) (e : H t = some (.tup xs)) : t ≠ a := by
  obtain ⟨ys, e2⟩ := h.at_
  exact ne_of e e2 (by intro z; cases z)
/-- the fields of a Day -/
def dayF (y : Int) (m d : Option Int) : List (Str × V) := [("year", .int y), ("month", oV m), ("day", oV d)]
def DayAt (C : Addr) (H : Hp) (x : Addr) (y : Int) (m d : Option Int) : Prop := ∃ dx, H x = some (.ins C dx (dayF y m d))
theorem DayAt.same {C : Addr} {H H' : Hp} {x : Addr} {y : Int} {m d : Option Int} (h : DayAt C H x y m d) (s : Same H H') : DayAt C H' x y m d := by
  obtain ⟨dx, e⟩ := h
  exact ⟨dx, s _ _ e⟩
theorem DayAt.but {C h : Addr} {n : Int} {H H' : Hp} {x : Addr} {y : Int} {m d : Option Int} (q : DayAt C H x y m d) (hh : Hand n H h) (s : But h H H') : DayAt C H' x y m d := by
  obtain ⟨dx, e⟩ := q
  obtain ⟨ys, e2⟩ := hh.at_
  exact ⟨dx, s _ _ (ne_of e e2 (by intro z; cases z)) e⟩
theorem f_y (y : Int) (m d : Option Int) : (dayF y m d).lookup ("year" : Str) = some (.int y) := by
  unfold dayF
  rw [List.lookup_cons_self]
theorem f_m (y : Int) (m d : Option Int) : (dayF y m d).lookup ("month" : Str) = some (oV m) := by
  unfold dayF
  rw [List.lookup_cons, show (("month" : Str) == "year") = false by decide +kernel, List.lookup_cons_self]
theorem f_d (y : Int) (m d : Option Int) : (dayF y m d).lookup ("day" : Str) = some (oV d) := by
  unfold dayF
  rw [List.lookup_cons, show (("day" : Str) == "year") = false by decide +kernel, List.lookup_cons, show (("day" : Str) == "month") = false by decide +kernel, List.lookup_cons_self]
end K4
namespace K4
open PySem PySem.Spec PyProof.Rows L2
/-- a def that may be called by its name -/
structure Ca (P : Program) (w : World) (K : PySem.W.Frag) (mg : Str → Option Value) (base : Heap) (k : Nat) (x : Str) (ps : List Str) (sp : Sp) : Prop where
  ex : ∃ (f : Addr) (fd : FuncData), FnOk P w K mg base CX0 k f fd ps sp ∧ mg x = some (.ref f) ∧ PySem.W.keepIn K (.ref f) = true ∧ Binds K fd ps []
/-- a def of the text, as the head finds it -/
structure Df (K : PySem.W.Frag) (mg : Str → Option Value) (x : Str) (ps : List Str) (st : Stmt) (f : Addr) (fd : FuncData) : Prop where
  fn : Fun K x x st f fd
  mgf : mg x = some (.ref f)
  bd : Binds K fd ps []
theorem Df.ca {P : Program} {w : World} {K : PySem.W.Frag} {mg : Str → Option Value} {base : Heap} {k : Nat} {x : Str} {ps : List Str} {st : Stmt} {f : Addr} {fd : FuncData} {sp : Sp} (d : Df K mg x ps st f fd)
    (h : FnOk P w K mg base CX0 k f fd ps sp) : Ca P w K mg base k x ps sp := ⟨f, fd, h, d.mgf, d.fn.kp, d.bd⟩
section
variable {X : Cx} {k j : Nat} {x : Str} {ps : List Str} {sp : Sp} {p pos : Pos} {e : Expr} {es : List Expr} {t : TA}
theorem pe_ca (c : Ca X.prog X.w X.K X.mg X.base k x ps sp) (hr : Room j X.A) (hk : k ≤ j) (hg : Gl X x) (ha : PA X (e :: es) t) (hdb : (x == ("__debug__" : Str)) = false := by decide)
    (he : starEach (e :: es) X.env = (false, eval e X.env) :: starEach es X.env := by rfl) (hpl : (backTo pos (starEach es X.env)).any (·.1) = false := by rfl) :
    PE X (.Call (.Name x p) (e :: es) [] pos) (tCall sp [] E0 t) := by
  obtain ⟨f, fd, F, hm, kp, b⟩ := c.ex
  exact pe_call F (hr.mono hk) hg hm kp b .nil pass0 ha hdb he hpl
end

/-- what the top has left, besides the defs -/
structure Txt (K : PySem.W.Frag) (mg : Str → Option Value) (C : Addr) : Prop where
  cl : Cls K C
  nY : NoAttr K C "year"
  nM : NoAttr K C "month"
  nD : NoAttr K C "day"
  mgC : mg "Day" = some (.ref C)
  ins : C8.InsC K C
  yr : ∃ t, mg "LAST_YEAR" = some (.int 9999 t)
  mo : ∃ t, mg "MONTHS" = some (.int 12 t)
  fe : ∃ t, mg "FEBRUARY" = some (.int 2 t)
  md : ∃ a, mg "MONTH_DAYS" = some (.ref a) ∧ ∀ H, SqT K H a ([31, 28, 31, 30, 31, 30, 31, 31, 30, 31, 30, 31].map V.int)
  isi : mg "isinstance" = none
  int : mg "int" = none
  bool : mg "bool" = none
  len : mg "len" = none
  abs : mg "abs" = none
  min : mg "min" = none
  all : mg "all" = none
  sorted : mg "sorted" = none
  list : mg "list" = none
  tuple : mg "tuple" = none
  range : mg "range" = none
  repr : mg "repr" = none

/-! ## promises of the program's defs -/
def spWhole : Sp := fun vs H Q _ => ∃ i : Int, vs = [.int i] ∧ Q (.bl true) H
def spWithin : Sp := fun vs H Q _ => ∃ i a b : Int, vs = [.int i, .int a, .int b] ∧ a ≤ i ∧ i ≤ b ∧ Q (.bl true) H
def spLeap : Sp := fun vs H Q _ => ∃ y : Int, vs = [.int y] ∧ Q (.bl (leap y)) H
def spDaysIn : Sp := fun vs H Q _ => ∃ y m : Int, vs = [.int y, .int m] ∧ 1 ≤ m ∧ m ≤ 12 ∧ Q (.int (lastDay y m)) H
def spMakes : Sp := fun vs H Q _ => ∃ (y : Int) (m d : Option Int), vs = [.int y, oV m, oV d] ∧ Good y m d ∧ Q (.bl true) H
def spInit (C : Addr) : Sp := fun vs H Q _ => ∃ (x dx : Addr) (y : Int) (m d : Option Int), vs = [.ref x, .int y, oV m, oV d] ∧ Good y m d ∧ H x = some (.ins C dx []) ∧
  ∀ H' : Hp, (∀ b o, H b = some o → b ≠ x → H' b = some o) → DayAt C H' x y m d → Q .non H'
/-- a new Day -/
def spEarliest (C : Addr) : Sp := fun vs H Q _ => ∃ (a : Addr) (y : Int) (m d : Option Int), vs = [.ref a] ∧ DayAt C H a y m d ∧ Good y m d ∧
  ∀ H' x, Same H H' → DayAt C H' x y (some (m.getD 1)) (some (d.getD 1)) → Q (.ref x) H'
def spLatest (C : Addr) : Sp := fun vs H Q _ => ∃ (a : Addr) (y : Int) (m d : Option Int), vs = [.ref a] ∧ DayAt C H a y m d ∧ Good y m d ∧
  ∀ H' x, Same H H' → DayAt C H' x y (some (m.getD 12)) (some (d.getD (lastDay y (m.getD 12)))) → Q (.ref x) H'

section
variable {P : Program} {w : World} {K : PySem.W.Frag} {mg : Str → Option Value} {base : Heap} {C : Addr}

theorem ok_whole {f : Addr} {fd : FuncData} (D : Df K mg "is_whole" ["thing"] sWhole f fd) (T : Txt K mg C) : FnOk P w K mg base CX0 1 f fd ["thing"] spWhole := by
  refine D.fn.ok scWhole (fun vs H Q E h => ?_) (fun cdv A outer s H vs Q E hr h => ?_)
  · obtain ⟨i, rfl, _⟩ := h
    rfl
  · obtain ⟨i, rfl, q⟩ := h
    refine ⟨_, pss_one (ps_ret (pe_and (pe_callB call_isi (by rfl) T.isi (by decide +kernel) (pa_cons (pv 0) (pa_cons (pe_bltn (v := .ty "int") (by rfl) T.int (by decide +kernel) rfl) pa_nil)))
      (pe_one (pe_not (pe_callB call_isi (by rfl) T.isi (by decide +kernel) (pa_cons (pv 0) (pa_cons (pe_bltn (v := .ty "bool") (by rfl) T.bool (by decide +kernel) rfl) pa_nil))))))), ?_⟩
    refine ⟨_, rfl, _, _, _, _, true, rfl, .ty _, .base (.int i), kit_ty (by decide +kernel), true, rfl, iteT ?_⟩
    refine ⟨_, rfl, _, _, _, _, false, rfl, .ty _, .base (.int i), kit_ty (by decide +kernel), false, rfl, q⟩

theorem ok_within {f : Addr} {fd : FuncData} (D : Df K mg "is_within" ["thing", "least", "most"] sWithin f fd) (T : Txt K mg C) (cW : Ca P w K mg base 1 "is_whole" ["thing"] spWhole) :
    FnOk P w K mg base CX0 2 f fd ["thing", "least", "most"] spWithin := by
  refine D.fn.ok scWithin (fun vs H Q E h => ?_) (fun cdv A outer s H vs Q E hr h => ?_)
  · obtain ⟨i, a, b, rfl, _⟩ := h
    rfl
  · obtain ⟨i, a, b, rfl, h1, h2, q⟩ := h
    refine ⟨_, pss_one (ps_ret (pe_and (pe_ca cW hr (by decide) (by rfl) (pa_cons (pv 0) pa_nil)) (pe_one (pe_chain op_le op_le (pv 1) (pv 0) (pv 2))))), ?_⟩
    refine ⟨_, rfl, i, rfl, true, rfl, iteT ?_⟩
    refine ⟨_, rfl, _, rfl, a, i, rfl, rfl, _, rfl, ?_⟩
    rw [decide_eq_true h1]
    refine iteT ⟨_, rfl, i, b, rfl, rfl, ?_⟩
    show Q (V.bl (decide (i ≤ b))) H
    rw [decide_eq_true h2]
    exact q

theorem ok_leap {f : Addr} {fd : FuncData} (D : Df K mg "is_leap" ["year"] sLeap f fd) : FnOk P w K mg base CX0 1 f fd ["year"] spLeap := by
  refine D.fn.ok scLeap (fun vs H Q E h => ?_) (fun cdv A outer s H vs Q E hr h => ?_)
  · obtain ⟨y, rfl, _⟩ := h
    rfl
  · obtain ⟨y, rfl, q⟩ := h
    refine ⟨_, pss_one (ps_ret (pe_and (pe_cmpR op_eq (pe_op op_mod (pv 0) pe_int) pe_int (nomark _))
      (pe_one (pe_or (pe_cmpR op_ne (pe_op op_mod (pv 0) pe_int) pe_int (nomark _)) (pe_one (pe_cmpR op_eq (pe_op op_mod (pv 0) pe_int) pe_int (nomark _))))))), ?_⟩
    have e4 : decide (V.int (y % 4) = V.int 0) = decide (y % 4 = 0) := decide_eq_decide.mpr ⟨fun z => V.int.inj z, fun z => by rw [z]⟩
    have e1 : decide (V.int (y % 100) = V.int 0) = decide (y % 100 = 0) := decide_eq_decide.mpr ⟨fun z => V.int.inj z, fun z => by rw [z]⟩
    have e0 : decide (V.int (y % 400) = V.int 0) = decide (y % 400 = 0) := decide_eq_decide.mpr ⟨fun z => V.int.inj z, fun z => by rw [z]⟩
    refine ⟨_, rfl, y, 4, rfl, rfl, (by show (0 : Int) < 4; decide), rfl, _, rfl, ?_⟩
    rw [e4]
    refine ite2 (fun c4 => ?_) (fun c4 => ?_)
    · refine ⟨_, rfl, y, 100, rfl, rfl, (by show (0 : Int) < 100; decide), rfl, _, rfl, ?_⟩
      rw [e1]
      refine ite2 (fun c1 => ?_) (fun c1 => ?_)
      · have z : leap y = true := by
          have a := of_decide_eq_true c4
          have b : ¬ y % 100 = 0 := by simpa using c1
          unfold leap
          simp [a, b]
        rw [z] at q
        exact q
      · refine ⟨_, rfl, y, 400, rfl, rfl, (by show (0 : Int) < 400; decide), rfl, ?_⟩
        rw [e0]
        have z : leap y = decide (y % 400 = 0) := by
          have a := of_decide_eq_true c4
          have b : y % 100 = 0 := by simpa using c1
          unfold leap
          simp [a, b]
        rw [z] at q
        exact q
    · have z : leap y = false := by
        have a : ¬ y % 4 = 0 := by simpa using c4
        unfold leap
        simp [a]
      rw [z] at q
      exact q
end
end K4
namespace K4
open PySem PySem.Spec PyProof.Rows L2
section
variable {P : Program} {w : World} {K : PySem.W.Frag} {mg : Str → Option Value} {base : Heap} {C : Addr}

theorem dInt (i j : Int) : decide (V.int i = V.int j) = decide (i = j) := decide_eq_decide.mpr ⟨fun z => V.int.inj z, fun z => by rw [z]⟩

theorem month_at (y m : Int) (h1 : 1 ≤ m) (h2 : m ≤ 12) (n : ¬ (m = 2 ∧ leap y = true)) :
    atI ([31, 28, 31, 30, 31, 30, 31, 31, 30, 31, 30, 31].map V.int) (m - 1) = some (.int (lastDay y m)) := by
  obtain ⟨j, rfl⟩ : ∃ j : Nat, m = (j : Int) + 1 := ⟨(m - 1).toNat, by omega⟩
  have hj : j < 12 := by omega
  rw [show (j : Int) + 1 - 1 = (j : Int) by omega]
  refine atI_nat ?_
  match j, hj with
  | 0, _ => simp [lastDay]
  | 1, _ =>
    have l : ¬ leap y = true := fun z => n ⟨by decide, z⟩
    simp [lastDay, l]
  | 2, _ => simp [lastDay]
  | 3, _ => simp [lastDay]
  | 4, _ => simp [lastDay]
  | 5, _ => simp [lastDay]
  | 6, _ => simp [lastDay]
  | 7, _ => simp [lastDay]
  | 8, _ => simp [lastDay]
  | 9, _ => simp [lastDay]
  | 10, _ => simp [lastDay]
  | 11, _ => simp [lastDay]

theorem ok_daysIn {f : Addr} {fd : FuncData} (D : Df K mg "days_in" ["year", "month"] sDaysIn f fd) (T : Txt K mg C) (cL : Ca P w K mg base 1 "is_leap" ["year"] spLeap) :
    FnOk P w K mg base CX0 2 f fd ["year", "month"] spDaysIn := by
  obtain ⟨tF, gF⟩ := T.fe
  obtain ⟨aM, gM, sM⟩ := T.md
  refine D.fn.ok scDaysIn (fun vs H Q E h => ?_) (fun cdv A outer s H vs Q E hr h => ?_)
  · obtain ⟨y, m, rfl, _⟩ := h
    rfl
  · obtain ⟨y, m, rfl, h1, h2, q⟩ := h
    refine ⟨_, pss_cons (ps_if (PW.pt (pw_and (pt_cmpR op_eq (pv 1) (pe_glob (v := .int 2) (by rfl) gF ⟨_, rfl⟩) (nomark _)) (pw_and1 (pt_val (pe_ca cL hr (by decide) (by rfl) (pa_cons (pv 0) pa_nil))))))
      (pss_one (ps_ret pe_int)) pss_nil)
      (pss_one (ps_ret (pe_ix ix_tup (pe_glob (v := .ref aM) (by rfl) gM rfl) (pe_op op_sub (pv 1) pe_int) (fun _ _ => rfl)))), ?_⟩
    refine ⟨_, rfl, rfl, _, rfl, ?_⟩
    rw [dInt]
    refine ite2 (fun c => ?_) (fun c => ?_)
    · have em : m = 2 := of_decide_eq_true c
      refine ⟨_, rfl, y, rfl, _, rfl, ?_⟩
      cases l : leap y with
      | true =>
        have z : lastDay y m = 29 := by
          rw [em]
          simp [lastDay, l]
        rw [z] at q
        exact iteT q
      | false => exact iteF ⟨_, rfl, m, 1, rfl, rfl, aM, _, m - 1, _, rfl, rfl, sM H, month_at y m h1 h2 (fun z => by rw [l] at z; cases z.2), q⟩
    · exact iteF ⟨_, rfl, m, 1, rfl, rfl, aM, _, m - 1, _, rfl, rfl, sM H, month_at y m h1 h2 (fun z => c (decide_eq_true z.1)), q⟩

theorem ok_makes {f : Addr} {fd : FuncData} (D : Df K mg "makes_day" ["year", "month", "day"] sMakes f fd) (T : Txt K mg C) (cW : Ca P w K mg base 2 "is_within" ["thing", "least", "most"] spWithin)
    (cD : Ca P w K mg base 2 "days_in" ["year", "month"] spDaysIn) : FnOk P w K mg base CX0 3 f fd ["year", "month", "day"] spMakes := by
  obtain ⟨tY, gY⟩ := T.yr
  obtain ⟨tM, gM⟩ := T.mo
  refine D.fn.ok scMakes (fun vs H Q E h => ?_) (fun cdv A outer s H vs Q E hr h => ?_)
  · obtain ⟨y, m, d, rfl, _⟩ := h
    rfl
  · obtain ⟨y, m, d, rfl, ⟨g1, g2, g3⟩, q⟩ := h
    refine ⟨_, pss_cons (ps_if (pt_not (pt_val (pe_ca cW hr (by decide) (by rfl) (pa_cons (pv 0) (pa_cons pe_int (pa_cons (pe_glob (v := .int 9999) (by rfl) gY ⟨_, rfl⟩) pa_nil)))))) (pss_one (ps_ret pe_bl)) pss_nil)
      (pss_cons (ps_if (pt_cmpR op_isN (pv 1) pe_non (nomark _)) (pss_one (ps_ret (pe_cmpR op_isN (pv 2) pe_non (nomark _)))) pss_nil)
      (pss_cons (ps_if (pt_not (pt_val (pe_ca cW hr (by decide) (by rfl) (pa_cons (pv 1) (pa_cons pe_int (pa_cons (pe_glob (v := .int 12) (by rfl) gM ⟨_, rfl⟩) pa_nil)))))) (pss_one (ps_ret pe_bl)) pss_nil)
      (pss_one (ps_ret (pe_or (pe_cmpR op_isN (pv 2) pe_non (nomark _))
        (pe_one (pe_ca cW hr (by decide) (by rfl) (pa_cons (pv 2) (pa_cons pe_int (pa_cons (pe_ca cD hr (by decide) (by rfl) (pa_cons (pv 0) (pa_cons (pv 1) pa_nil))) pa_nil)))))))))), ?_⟩
    refine ⟨_, rfl, y, 1, 9999, rfl, g1, g2, true, rfl, iteF ?_⟩
    cases m with
    | none =>
      have ed : d = none := g3
      subst ed
      refine ⟨_, rfl, rfl, _, rfl, iteT ?_⟩
      exact ⟨_, rfl, rfl, q⟩
    | some i =>
      obtain ⟨g4, g5, g6⟩ := g3
      refine ⟨_, rfl, rfl, _, rfl, iteF ?_⟩
      refine ⟨_, rfl, i, 1, 12, rfl, g4, g5, true, rfl, iteF ?_⟩
      cases d with
      | none => exact ⟨_, rfl, rfl, true, rfl, iteT q⟩
      | some j =>
        obtain ⟨g7, g8⟩ := g6
        refine ⟨_, rfl, rfl, false, rfl, iteF ?_⟩
        exact ⟨_, rfl, _, rfl, _, rfl, y, i, rfl, g4, g5, j, 1, lastDay y i, rfl, g7, g8, q⟩

theorem put3 (y : Int) (m d : Option Int) : putF "day" (oV d) (putF "month" (oV m) (putF "year" (.int y) [])) = dayF y m d := by
  show (if ("year" : Str) = "day" then _ else _) = _
  rw [if_neg (by decide +kernel)]
  rfl
end
end K4
namespace K4
open PySem PySem.Spec PyProof.Rows L2
/-- a class that may be made by its name with all its values -/
structure Ma (P : Program) (w : World) (K : PySem.W.Frag) (mg : Str → Option Value) (base : Heap) (k : Nat) (x : Str) (C : Addr) (ps : List Str) (sp : Sp) : Prop where
  ex : ∃ (f : Addr) (fd : FuncData), Mk K C f ∧ FnOk P w K mg base CX0 k f fd ps sp ∧ mg x = some (.ref C) ∧ Binds K fd ps []
section
variable {X : Cx} {k j : Nat} {C : Addr} {x : Str} {ps : List Str} {sp : Sp} {p pos : Pos} {e : Expr} {es : List Expr} {t : TA}
theorem pe_ma (c : Ma X.prog X.w X.K X.mg X.base k x C ps sp) (hr : Room j X.A) (hk : k + 1 ≤ j) (hg : Gl X x) (ha : PA X (e :: es) t) (hdb : (x == ("__debug__" : Str)) = false := by decide)
    (he : starEach (e :: es) X.env = (false, eval e X.env) :: starEach es X.env := by rfl) (hpl : (backTo pos (starEach es X.env)).any (·.1) = false := by rfl) :
    PE X (.Call (.Name x p) (e :: es) [] pos) (tMake C sp [] E0 t) := by
  obtain ⟨f, fd, M, F, hm, b⟩ := c.ex
  exact pe_make M F (hr.mono hk) hg hm b .nil pass0 ha hdb he hpl
end
section
variable {P : Program} {w : World} {K : PySem.W.Frag} {mg : Str → Option Value} {base : Heap} {C : Addr}
theorem ok_init {f : Addr} {fd : FuncData} (F : FunD K "__init__" "Day.__init__" (defArgs sInit) (defBody sInit) (defScope sInit) [.non, .non] [] f fd) (T : Txt K mg C) (cM : Ca P w K mg base 3 "makes_day" ["year", "month", "day"] spMakes) :
    FnOk P w K mg base CX0 4 f fd ["self", "year", "month", "day"] (spInit C) := by
  refine F.ok scInit (fun vs H Q E h => ?_) (fun cdv A outer s H vs Q E hr h => ?_)
  · obtain ⟨x, dx, y, m, d, rfl, _⟩ := h
    rfl
  · obtain ⟨x, dx, y, m, d, rfl, g, hx, q⟩ := h
    refine ⟨_, PSs.nox (pss_cons (ps_if (pt_not (pt_val (pe_ca cM hr (by decide) (by rfl) (pa_cons (pv 1) (pa_cons (pv 2) (pa_cons (pv 3) pa_nil)))))) (pss_one ps_never) pss_nil)
      (pss_cons (ps_fld (pv 0) (pv 1) rfl) (pss_cons (ps_fld (pv 0) (pv 2) rfl) (pss_one (ps_fld (pv 0) (pv 3) rfl))))), ?_⟩
    refine ⟨_, rfl, _, rfl, _, rfl, y, m, d, rfl, g, true, rfl, iteF ?_⟩
    refine ⟨_, rfl, _, rfl, x, C, dx, [], rfl, hx, T.cl, T.nY, (by decide), ?_⟩
    refine ⟨_, rfl, _, rfl, x, C, dx, _, rfl, upd_same, T.cl, T.nM, (by show 1 < 1000; decide), ?_⟩
    refine ⟨_, rfl, _, rfl, x, C, dx, _, rfl, upd_same, T.cl, T.nD, ?_, ?_⟩
    · show (putF "month" (oV m) [(("year" : Str), V.int y)]).length < 1000
      unfold putF
      split <;> simp [putF]
    · rw [upd_upd, upd_upd]
      refine q _ (fun b o e n => by rw [upd_ne n]; exact e) ⟨dx, ?_⟩
      rw [upd_same]
      exact congrArg (fun z => some (HO.ins C dx z)) (put3 y m d)

theorem init_binds {f : Addr} {fd : FuncData} (F : FunD K "__init__" "Day.__init__" (defArgs sInit) (defBody sInit) (defScope sInit) [.non, .non] [] f fd) : Binds K fd ["self", "year", "month", "day"] [] := by
  obtain ⟨ds, r, b⟩ := F.binds1 (ps := ["self", "year", "month", "day"]) 4 2 (by simp) rfl fun T kV doc pm an cdv ct us its h1 h2 => by
    match us, its, h1, h2 with
    | [_, _, _, _], [_, _], _, _ => exact ⟨_, rfl, rfl⟩
  cases r
  exact b
/-- what making a Day asks and leaves -/
theorem made {H : Hp} {x dx : Addr} (n1 : H x = none) (n2 : H dx = none) {H' : Hp} (k : ∀ b o, (upd (upd H dx (.own x)) x (.ins C dx [])) b = some o → b ≠ x → H' b = some o) : Same H H' := Same.made n1 n2 k

theorem ok_earliest {f : Addr} {fd : FuncData} (D : Df K mg "earliest" ["day"] sEarliest f fd) (T : Txt K mg C) (mD : Ma P w K mg base 4 "Day" C ["self", "year", "month", "day"] (spInit C)) :
    FnOk P w K mg base CX0 6 f fd ["day"] (spEarliest C) := by
  refine D.fn.ok scEarliest (fun vs H Q E h => ?_) (fun cdv A outer s H vs Q E hr h => ?_)
  · obtain ⟨a, y, m, d, rfl, _⟩ := h
    rfl
  · obtain ⟨a, y, m, d, rfl, ⟨dx, ha⟩, g, q⟩ := h
    refine ⟨_, pss_cons (ps_set (i := 1) scEarliest.nd rfl (.inl rfl) (pe_ifExp (pt_cmpR op_isN (pe_fld (pv 0) rfl) pe_non (nomark _)) pe_int (pe_fld (pv 0) rfl)))
      (pss_one (ps_ret (pe_ma mD hr (by decide) (by rfl) (pa_cons (pe_fld (pv 0) rfl) (pa_cons (pv 1) (pa_cons (pe_ifExp (pt_cmpR op_isN (pe_fld (pv 0) rfl) pe_non (nomark _)) pe_int (pe_fld (pv 0) rfl)) pa_nil)))))), ?_⟩
    obtain ⟨g1, g2, g3⟩ := g
    have fin : ∀ x e : Addr, H x = none → H e = none → e ≠ x → Good y (some (m.getD 1)) (some (d.getD 1)) → spInit C [.ref x, .int y, .int (m.getD 1), .int (d.getD 1)] (upd (upd H e (.own x)) x (.ins C e [])) (fun v H2 => v = .non ∧ Q (.ref x) H2) E0 :=
      fun x e n1 n2 n3 gg => ⟨x, e, y, some (m.getD 1), some (d.getD 1), rfl, gg, upd_same, fun H' k dd => ⟨rfl, q H' x (made n1 n2 k) dd⟩⟩
    cases m with
    | none =>
      have ed : d = none := g3
      subst ed
      refine ⟨_, rfl, a, C, dx, _, _, rfl, ha, T.cl, T.nM, f_m _ _ _, rfl, _, rfl, iteT ?_⟩
      refine ⟨_, rfl, a, C, dx, _, _, rfl, ha, T.cl, T.nY, f_y _ _ _, _, rfl, _, rfl, a, C, dx, _, _, rfl, ha, T.cl, T.nD, f_d _ _ _, rfl, _, rfl, iteT ?_⟩
      exact fun x e n1 n2 n3 => fin x e n1 n2 n3 ⟨g1, g2, by decide, by decide, by decide, by have := lastDay_ge y 1; show (1 : Int) ≤ lastDay y 1; omega⟩
    | some i =>
      obtain ⟨g4, g5, g6⟩ := g3
      refine ⟨_, rfl, a, C, dx, _, _, rfl, ha, T.cl, T.nM, f_m _ _ _, rfl, _, rfl, iteF ?_⟩
      refine ⟨_, rfl, a, C, dx, _, _, rfl, ha, T.cl, T.nM, f_m _ _ _, ?_⟩
      refine ⟨_, rfl, a, C, dx, _, _, rfl, ha, T.cl, T.nY, f_y _ _ _, _, rfl, _, rfl, a, C, dx, _, _, rfl, ha, T.cl, T.nD, f_d _ _ _, rfl, _, rfl, ?_⟩
      cases d with
      | none => exact iteT fun x e n1 n2 n3 => fin x e n1 n2 n3 ⟨g1, g2, g4, g5, by decide, by have := lastDay_ge y i; show (1 : Int) ≤ lastDay y i; omega⟩
      | some j =>
        refine iteF ⟨_, rfl, a, C, dx, _, _, rfl, ha, T.cl, T.nD, f_d _ _ _, ?_⟩
        exact fun x e n1 n2 n3 => fin x e n1 n2 n3 ⟨g1, g2, g4, g5, g6⟩

theorem ok_latest {f : Addr} {fd : FuncData} (D : Df K mg "latest" ["day"] sLatest f fd) (T : Txt K mg C) (mD : Ma P w K mg base 4 "Day" C ["self", "year", "month", "day"] (spInit C))
    (cD : Ca P w K mg base 2 "days_in" ["year", "month"] spDaysIn) : FnOk P w K mg base CX0 6 f fd ["day"] (spLatest C) := by
  obtain ⟨tM, gM⟩ := T.mo
  refine D.fn.ok scLatest (fun vs H Q E h => ?_) (fun cdv A outer s H vs Q E hr h => ?_)
  · obtain ⟨a, y, m, d, rfl, _⟩ := h
    rfl
  · obtain ⟨a, y, m, d, rfl, ⟨dx, ha⟩, g, q⟩ := h
    refine ⟨_, pss_cons (ps_set (i := 1) scLatest.nd rfl (.inl rfl) (pe_ifExp (pt_cmpR op_isN (pe_fld (pv 0) rfl) pe_non (nomark _)) (pe_glob (v := .int 12) (by rfl) gM ⟨_, rfl⟩) (pe_fld (pv 0) rfl)))
      (pss_one (ps_ret (pe_ma mD hr (by decide) (by rfl) (pa_cons (pe_fld (pv 0) rfl) (pa_cons (pv 1) (pa_cons (pe_ifExp (pt_cmpR op_isN (pe_fld (pv 0) rfl) pe_non (nomark _))
        (pe_ca cD hr (by decide) (by rfl) (pa_cons (pe_fld (pv 0) rfl) (pa_cons (pv 1) pa_nil))) (pe_fld (pv 0) rfl)) pa_nil)))))), ?_⟩
    obtain ⟨g1, g2, g3⟩ := g
    have fin : ∀ x e : Addr, H x = none → H e = none → e ≠ x → Good y (some (m.getD 12)) (some (d.getD (lastDay y (m.getD 12)))) →
        spInit C [.ref x, .int y, .int (m.getD 12), .int (d.getD (lastDay y (m.getD 12)))] (upd (upd H e (.own x)) x (.ins C e [])) (fun v H2 => v = .non ∧ Q (.ref x) H2) E0 :=
      fun x e n1 n2 n3 gg => ⟨x, e, y, some _, some _, rfl, gg, upd_same, fun H' k dd => ⟨rfl, q H' x (made n1 n2 k) dd⟩⟩
    cases m with
    | none =>
      have ed : d = none := g3
      subst ed
      refine ⟨_, rfl, a, C, dx, _, _, rfl, ha, T.cl, T.nM, f_m _ _ _, rfl, _, rfl, iteT ?_⟩
      refine ⟨_, rfl, a, C, dx, _, _, rfl, ha, T.cl, T.nY, f_y _ _ _, _, rfl, _, rfl, a, C, dx, _, _, rfl, ha, T.cl, T.nD, f_d _ _ _, rfl, _, rfl, iteT ?_⟩
      refine ⟨_, rfl, a, C, dx, _, _, rfl, ha, T.cl, T.nY, f_y _ _ _, _, rfl, y, 12, rfl, by decide, by decide, ?_⟩
      exact fun x e n1 n2 n3 => fin x e n1 n2 n3 ⟨g1, g2, by decide, by decide, by have := lastDay_ge y 12; show (1 : Int) ≤ lastDay y 12; omega, Int.le_refl _⟩
    | some i =>
      obtain ⟨g4, g5, g6⟩ := g3
      refine ⟨_, rfl, a, C, dx, _, _, rfl, ha, T.cl, T.nM, f_m _ _ _, rfl, _, rfl, iteF ?_⟩
      refine ⟨_, rfl, a, C, dx, _, _, rfl, ha, T.cl, T.nM, f_m _ _ _, ?_⟩
      refine ⟨_, rfl, a, C, dx, _, _, rfl, ha, T.cl, T.nY, f_y _ _ _, _, rfl, _, rfl, a, C, dx, _, _, rfl, ha, T.cl, T.nD, f_d _ _ _, rfl, _, rfl, ?_⟩
      cases d with
      | none =>
        refine iteT ⟨_, rfl, a, C, dx, _, _, rfl, ha, T.cl, T.nY, f_y _ _ _, _, rfl, y, i, rfl, g4, g5, ?_⟩
        exact fun x e n1 n2 n3 => fin x e n1 n2 n3 ⟨g1, g2, g4, g5, by have := lastDay_ge y i; show (1 : Int) ≤ lastDay y i; omega, Int.le_refl _⟩
      | some j =>
        refine iteF ⟨_, rfl, a, C, dx, _, _, rfl, ha, T.cl, T.nD, f_d _ _ _, ?_⟩
        exact fun x e n1 n2 n3 => fin x e n1 n2 n3 ⟨g1, g2, g4, g5, g6⟩

end
end K4
namespace K4
open PySem PySem.Spec PyProof.Rows L2
/-! ## the law's own draws -/
abbrev far : Int := 1000000
def spHand (K : PySem.W.Frag) : Sp := fun vs H Q _ => ∃ (a : Addr) (k : Int) (ns : List Int), vs = [.ref a, .int k] ∧ 0 ≤ k ∧ SqL K H a (ns.map V.int) ∧
  ∀ p g m, H p = none → 0 ≤ g → 0 ≤ m → m < 2305843009213693951 → Q (.ref p) (upd H p (.lst [.int g, .int m, .int 0]))
def spTake : Sp := fun vs H Q _ => ∃ (h : Addr) (many n : Int), vs = [.ref h, .int many] ∧ 0 < many ∧ many < 1073741824 ∧ Hand n H h ∧ n ≤ far ∧
  ∀ d H', 0 ≤ d → d < many → Hand (n + 1) H' h → But h H H' → Q (.int d) H'
def spPick : Sp := fun vs H Q _ => ∃ (h l : Addr) (xs : List V) (n : Int), vs = [.ref h, .ref l] ∧ H l = some (.lst xs) ∧ l ≠ h ∧ xs ≠ [] ∧ xs.length < 1000 ∧ Hand n H h ∧ n ≤ far ∧
  ∀ v H', v ∈ xs → Hand (n + 1) H' h → But h H H' → Q v H'
def spLast : Sp := fun vs H Q _ => ∃ y m : Int, vs = [.int y, .int m] ∧ ∀ H', Same H H' → Q (.int (lastDay y m)) H'

section
variable {P : Program} {w : World} {K : PySem.W.Frag} {mg : Str → Option Value} {base : Heap} {C : Addr}

theorem b01 (b : Bool) : -(2 ^ 64) < (if b = true then (1 : Int) else 0) ∧ (if b = true then (1 : Int) else 0) < 2 ^ 64 := by cases b <;> decide
theorem b0 (b : Bool) : 0 ≤ (if b = true then (1 : Int) else 0) := by cases b <;> decide
theorem ok_hand {f : Addr} {fd : FuncData} (D : Df K mg "_law_hand" ["_law_script", "_law_k"] sHand f fd) (T : Txt K mg C) : FnOk P w K mg base CX0 1 f fd ["_law_script", "_law_k"] (spHand K) := by
  refine D.fn.ok scHand (fun vs H Q E h => ?_) (fun cdv A outer s H vs Q E hr h => ?_)
  · obtain ⟨a, k, ns, rfl, _⟩ := h
    rfl
  · obtain ⟨a, k, ns, rfl, hk, hS, q⟩ := h
    refine ⟨_, pss_cons (ps_set (i := 2) scHand.nd rfl (.inl rfl) (pe_ifExp (pt_cmpR op_lt (pv 1) (pe_callB call_len_seq (by rfl) T.len PySem.boot_len (pa_cons (pv 0) pa_nil)) (nomark _)) (pe_ix ix_list (pv 0) (pv 1) (fun _ _ => rfl)) pe_int))
      (pss_cons (ps_set (i := 3) scHand.nd rfl (.inl rfl) (pe_op op_mul (pe_op op_mod (pe_callB call_abs (by rfl) T.abs (by decide +kernel) (pa_cons (pv 2) pa_nil)) (pe_op op_mulW (pe_op op_pow pe_int pe_int) (pe_op op_pow pe_int pe_int)))
        (pe_callTy call_int1 (by rfl) T.int (by decide +kernel) (pa_cons (pe_cmpR op_ge (pe_callB call_abs (by rfl) T.abs (by decide +kernel) (pa_cons (pv 2) pa_nil)) (pe_op op_pow pe_int pe_int) (nomark _)) pa_nil))))
      (pss_one (ps_ret (pe_lst (pa_cons (pv 3) (pa_cons (pe_op op_mod (pe_op op_add (pe_op op_add (pe_op op_mod (pv 2) pe_int) (pe_op op_mul pe_int (pv 1))) pe_int) pe_int) (pa_cons pe_int pa_nil))))))), ?_⟩
    refine ⟨_, rfl, _, rfl, a, _, rfl, .inl hS, k, _, rfl, rfl, _, rfl, ?_⟩
    refine ite2 (fun e => ?_) (fun e => ?_)
    · have hlt : k < ((ns.map V.int).length : Int) := of_decide_eq_true e
      rw [List.length_map] at hlt
      obtain ⟨j, rfl⟩ : ∃ j : Nat, k = (j : Int) := ⟨k.toNat, by omega⟩
      have hj : j < ns.length := by omega
      have hat : atI (ns.map V.int) ((j : Nat) : Int) = some (.int ns[j]) := atI_nat (by rw [List.getElem?_map, List.getElem?_eq_getElem hj]; rfl)
      refine ⟨_, rfl, _, rfl, a, _, _, _, rfl, rfl, hS, hat, ?_⟩
      refine ⟨_, rfl, ns[j], rfl, 10, 60, rfl, rfl, ⟨by decide, by decide, by decide⟩, 10, 60, rfl, rfl, ⟨by decide, by decide, by decide⟩, _, _, rfl, rfl, ?_, _, _, rfl, rfl, ?_, ?_⟩
      · exact wide_mul (a := 300) (b := 300) (by decide +kernel) (by decide +kernel) (by decide) (by decide) (by decide)
      · show (0 : Int) < 10 ^ (60 : Int).toNat * 10 ^ (60 : Int).toNat
        decide +kernel
      · refine ⟨_, rfl, ns[j], rfl, 10, 18, rfl, rfl, ⟨by decide, by decide, by decide⟩, _, _, rfl, rfl, .inr ⟨_, rfl, _, _, rfl, rfl, .inr ?_, ?_⟩⟩
        · exact b01 _
        · refine ⟨_, rfl, _, rfl, ns[j], 2305843009213693951, rfl, rfl, (by show (0 : Int) < 2305843009213693951; decide), _, rfl, 7919, _, rfl, rfl, .inl (by decide), _, _, rfl, rfl, _, _, rfl, rfl, _, _, rfl, rfl, (by show (0 : Int) < 2305843009213693951; decide), (by show 3 ≤ sizeLine; decide), fun p np => ?_⟩
          refine q p _ _ np ?_ (Int.emod_nonneg _ (by decide)) (Int.emod_lt_of_pos _ (by decide))
          refine Int.mul_nonneg (Int.emod_nonneg _ (by decide +kernel)) ?_
          exact b0 _
    · refine ⟨_, rfl, 0, rfl, 10, 60, rfl, rfl, ⟨by decide, by decide, by decide⟩, 10, 60, rfl, rfl, ⟨by decide, by decide, by decide⟩, _, _, rfl, rfl, ?_, _, _, rfl, rfl, ?_, ?_⟩
      · exact wide_mul (a := 300) (b := 300) (by decide +kernel) (by decide +kernel) (by decide) (by decide) (by decide)
      · show (0 : Int) < 10 ^ (60 : Int).toNat * 10 ^ (60 : Int).toNat
        decide +kernel
      · refine ⟨_, rfl, 0, rfl, 10, 18, rfl, rfl, ⟨by decide, by decide, by decide⟩, _, _, rfl, rfl, .inr ⟨_, rfl, _, _, rfl, rfl, .inr ?_, ?_⟩⟩
        · exact b01 _
        · refine ⟨_, rfl, _, rfl, 0, 2305843009213693951, rfl, rfl, (by show (0 : Int) < 2305843009213693951; decide), _, rfl, 7919, _, rfl, rfl, .inl (by decide), _, _, rfl, rfl, _, _, rfl, rfl, _, _, rfl, rfl, (by show (0 : Int) < 2305843009213693951; decide), (by show 3 ≤ sizeLine; decide), fun p np => ?_⟩
          refine q p _ _ np ?_ (Int.emod_nonneg _ (by decide)) (Int.emod_lt_of_pos _ (by decide))
          refine Int.mul_nonneg (Int.emod_nonneg _ (by decide +kernel)) ?_
          exact b0 _

theorem ok_take {f : Addr} {fd : FuncData} (D : Df K mg "_law_take" ["_law_hand_here", "_law_many"] sTake f fd) : FnOk P w K mg base CX0 1 f fd ["_law_hand_here", "_law_many"] spTake := by
  refine D.fn.ok scTake (fun vs H Q E h => ?_) (fun cdv A outer s H vs Q E hr h => ?_)
  · obtain ⟨h, many, n, rfl, _⟩ := h
    rfl
  · obtain ⟨h, many, n, rfl, m1, m2, ⟨g, m, c, hh, g0, k0, k1, c0, c1⟩, hn, q⟩ := h
    refine ⟨_, pss_cons (ps_if (pt_cmpR op_gt (pe_ix ix_list (pv 0) pe_int (fun _ _ => rfl)) pe_int (nomark _))
        (pss_cons (ps_set (i := 2) scTake.nd rfl (.inl rfl) (pe_op op_mod (pe_ix ix_list (pv 0) pe_int (fun _ _ => rfl)) (pv 1)))
        (pss_cons (ps_asg (pe_op op_fdiv (pe_ix ix_list (pv 0) pe_int (fun _ _ => rfl)) (pv 1)) (pg_sub (pv 0) pe_int set_list))
        (pss_one (ps_ret (pv 2))))) pss_nil)
      (pss_cons (ps_asg (pe_op op_add (pe_ix ix_list (pv 0) pe_int (fun _ _ => rfl)) pe_int) (pg_sub (pv 0) pe_int set_list))
      (pss_cons (ps_set (i := 3) scTake.nd rfl (.inl rfl) (pe_op op_mod (pe_op op_mul (pe_op op_add (pe_op op_add (pe_ix ix_list (pv 0) pe_int (fun _ _ => rfl))
          (pe_op op_mul (pe_op op_mul pe_int (pe_ix ix_list (pv 0) pe_int (fun _ _ => rfl))) (pe_ix ix_list (pv 0) pe_int (fun _ _ => rfl)))) pe_int) pe_int) pe_int))
      (pss_cons (ps_set (i := 3) scTake.nd rfl (.inl rfl) (pe_op op_mod (pe_op op_mul (pv 3) (pe_op op_add (pe_op op_mod (pv 3) pe_int) (pe_op op_mul pe_int (pe_ix ix_list (pv 0) pe_int (fun _ _ => rfl))))) pe_int))
      (pss_one (ps_ret (pe_op op_mod (pe_op op_add (pe_op op_fdiv (pv 3) pe_int) (pe_op op_fdiv (pv 3) pe_int)) (pv 1))))))), ?_⟩
    have far' : n ≤ 1000000 := hn
    refine ⟨_, rfl, h, _, 0, _, rfl, rfl, SqL.of hh, atI_nat (j := 0) rfl, g, 0, rfl, rfl, _, rfl, ite2 (fun e => ?_) (fun e => ?_)⟩
    · refine ⟨_, rfl, h, _, 0, _, rfl, rfl, SqL.of hh, atI_nat (j := 0) rfl, _, rfl, g, many, rfl, rfl, m1, ?_⟩
      refine ⟨_, rfl, h, _, 0, _, rfl, rfl, SqL.of hh, atI_nat (j := 0) rfl, _, rfl, g, many, rfl, rfl, ⟨m1, m2⟩, _, rfl, h, _, 0, 0, rfl, rfl, hh, rfl, ?_⟩
      refine ⟨_, rfl, ?_⟩
      exact q _ _ (Int.emod_nonneg _ (by omega)) (Int.emod_lt_of_pos _ m1) ⟨g / many, m, c, upd_same, Int.ediv_nonneg g0 (by omega), k0, k1, c0, by omega⟩ but_upd
    · refine ⟨_, rfl, h, _, 2, _, rfl, rfl, SqL.of hh, atI_nat (j := 2) rfl, c, 1, rfl, rfl, _, rfl, h, _, 2, 2, rfl, rfl, hh, rfl, ?_⟩
      have h2 : (upd H h (.lst [.int g, .int m, .int (c + 1)])) h = some (.lst [.int g, .int m, .int (c + 1)]) := upd_same
      have s2 := SqL.of (K := K) h2
      refine ⟨_, rfl, h, _, 1, _, rfl, rfl, s2, atI_nat (j := 1) rfl, _, rfl, h, _, 2, _, rfl, rfl, s2, atI_nat (j := 2) rfl, 65537, c + 1, rfl, rfl, .inl (by decide), _, rfl, h, _, 2, _, rfl, rfl, s2, atI_nat (j := 2) rfl, _, c + 1, rfl, rfl, .inr (by omega),
        m, _, rfl, rfl, _, 11, rfl, rfl, _, 48271, rfl, rfl, .inr (by decide), _, 2305843009213693921, rfl, rfl, (by show (0 : Int) < 2305843009213693921; decide), ?_⟩
      generalize (m + 65537 * (c + 1) * (c + 1) + 11) * 48271 = z
      have z0 : 0 ≤ z % 2305843009213693921 := Int.emod_nonneg _ (by decide)
      have z1 : z % 2305843009213693921 < 2305843009213693921 := Int.emod_lt_of_pos _ (by decide)
      refine ⟨_, rfl, _, rfl, _, 1000003, rfl, rfl, (by show (0 : Int) < 1000003; decide), _, rfl, h, _, 2, _, rfl, rfl, s2, atI_nat (j := 2) rfl, 99991, c + 1, rfl, rfl, .inl (by decide), _, _, rfl, rfl, _, _, rfl, rfl, .inl (by omega),
        _, 2305843009213693907, rfl, rfl, (by show (0 : Int) < 2305843009213693907; decide), ?_⟩
      refine ⟨_, rfl, _, 97, rfl, rfl, ⟨by decide, by decide⟩, _, rfl, _, 1000033, rfl, rfl, ⟨by decide, by decide⟩, _, _, rfl, rfl, _, rfl, _, many, rfl, rfl, m1, ?_⟩
      exact q _ _ (Int.emod_nonneg _ (by omega)) (Int.emod_lt_of_pos _ m1) ⟨g, m, c + 1, h2, g0, k0, k1, by omega, by omega⟩ but_upd

theorem ok_pick {f : Addr} {fd : FuncData} (D : Df K mg "_law_pick" ["_law_hand_here", "_law_some"] sPick f fd) (T : Txt K mg C) (cT : Ca P w K mg base 1 "_law_take" ["_law_hand_here", "_law_many"] spTake) :
    FnOk P w K mg base CX0 2 f fd ["_law_hand_here", "_law_some"] spPick := by
  refine D.fn.ok scPick (fun vs H Q E h => ?_) (fun cdv A outer s H vs Q E hr h => ?_)
  · obtain ⟨h, l, xs, n, rfl, _⟩ := h
    rfl
  · obtain ⟨h, l, xs, n, rfl, hl, nl, ne, few, hh, hn, q⟩ := h
    refine ⟨_, pss_one (ps_ret (pe_ix ix_list (pv 1) (pe_ca cT hr (by decide) (by rfl) (pa_cons (pv 0) (pa_cons (pe_callB call_len_seq (by rfl) T.len PySem.boot_len (pa_cons (pv 1) pa_nil)) pa_nil))) (fun _ _ => rfl))), ?_⟩
    have pos : 0 < xs.length := List.length_pos_iff.mpr ne
    refine ⟨_, rfl, _, rfl, _, rfl, l, xs, rfl, .inl (SqL.of hl), h, (xs.length : Int), n, rfl, by omega, by omega, hh, hn, fun d H' d0 d1 hh' bt => ?_⟩
    obtain ⟨j, rfl⟩ : ∃ j : Nat, d = (j : Int) := ⟨d.toNat, by omega⟩
    have hj : j < xs.length := by omega
    refine ⟨l, xs, _, xs[j], rfl, rfl, SqL.of (bt _ _ nl hl), atI_nat (List.getElem?_eq_getElem hj), ?_⟩
    exact q _ H' (List.getElem_mem hj) hh' bt

theorem ok_last {f : Addr} {fd : FuncData} (D : Df K mg "_law_last" ["_law_y", "_law_m"] sLast f fd) : FnOk P w K mg base CX0 1 f fd ["_law_y", "_law_m"] spLast := by
  refine D.fn.ok scLast (fun vs H Q E h => ?_) (fun cdv A outer s H vs Q E hr h => ?_)
  · obtain ⟨y, m, rfl, _⟩ := h
    rfl
  · obtain ⟨y, m, rfl, q⟩ := h
    refine ⟨_, pss_cons (ps_if (pt_cmpR op_in_seq (pv 1) (pe_tup (pa_cons pe_int (pa_cons pe_int (pa_cons pe_int (pa_cons pe_int pa_nil))))) (by rfl)) (pss_one (ps_ret pe_int)) pss_nil)
      (pss_cons (ps_if (pt_cmpR op_ne (pv 1) pe_int (nomark _)) (pss_one (ps_ret pe_int)) pss_nil)
      (pss_cons (ps_par (i := 2) (j := 3) (by rfl) scLast.nd rfl rfl (by decide) rfl rfl (pa_cons (pe_cmpR op_eq (pe_op op_mul (pe_op op_fdiv (pv 0) pe_int) pe_int) (pv 0) (nomark _))
        (pa_cons (pe_cmpR op_eq (pe_op op_mul (pe_op op_fdiv (pv 0) pe_int) pe_int) (pv 0) (nomark _)) pa_nil)) (by rfl))
      (pss_one (ps_ret (pe_ifExp (PW.pt (pw_and (pt_val (pv 2)) (pw_and1 (PW.pt (pw_or (pt_not (pt_val (pv 3))) (pw_or1 (pt_cmpR op_eq (pe_op op_mul (pe_op op_fdiv (pv 0) pe_int) pe_int) (pv 0) (nomark _)))))))) pe_int pe_int))))), ?_⟩
    refine ⟨_, rfl, (by show 4 ≤ sizeLine; decide), fun t ht => ?_⟩
    have s1 : Same H (upd H t (.tup [.int 4, .int 6, .int 9, .int 11])) := same_upd ht
    refine ⟨t, _, rfl, .inr (SqT.of upd_same), rfl, rfl, _, rfl, ?_⟩
    have q1 := q _ s1
    have e1 : inV (V.int m) [.int 4, .int 6, .int 9, .int 11] = decide (m = 4 ∨ m = 6 ∨ m = 9 ∨ m = 11) := by
      show ((4 : Int) == m || ((6 : Int) == m || ((9 : Int) == m || ((11 : Int) == m || false)))) = _
      by_cases a : m = 4
      · subst a
        rfl
      · by_cases b : m = 6
        · subst b
          rfl
        · by_cases c : m = 9
          · subst c
            rfl
          · by_cases d : m = 11
            · subst d
              rfl
            · rw [beq_eq_false_iff_ne.mpr (Ne.symm a), beq_eq_false_iff_ne.mpr (Ne.symm b), beq_eq_false_iff_ne.mpr (Ne.symm c), beq_eq_false_iff_ne.mpr (Ne.symm d), decide_eq_false (by omega)]
              rfl
    show (if inV (V.int m) [.int 4, .int 6, .int 9, .int 11] = true then _ else _)
    rw [e1]
    refine ite2 (fun e => ?_) (fun e => ?_)
    · have z : lastDay y m = 30 := by
        unfold lastDay
        rw [if_pos (of_decide_eq_true e)]
      rw [z] at q1
      exact q1
    · have n1 : ¬ (m = 4 ∨ m = 6 ∨ m = 9 ∨ m = 11) := fun z => e (decide_eq_true z)
      refine ⟨_, rfl, rfl, _, rfl, ?_⟩
      rw [dInt]
      refine ite2 (fun c => ?_) (fun c => ?_)
      · have z : lastDay y m = 31 := by
          have c' : m ≠ 2 := by simpa using c
          unfold lastDay
          rw [if_neg n1, if_pos c']
        rw [z] at q1
        exact q1
      · have c' : m = 2 := by simpa using c
        have zz : lastDay y m = if leap y = true then 29 else 28 := by
          unfold lastDay
          rw [if_neg n1, if_neg (by simpa using c')]
        refine ⟨_, rfl, y, 4, rfl, rfl, ⟨by decide, by decide⟩, _, 4, rfl, rfl, .inr (by decide), _, rfl, rfl, _, rfl, y, 100, rfl, rfl, ⟨by decide, by decide⟩, _, 100, rfl, rfl, .inr (by decide), _, rfl, rfl, _, _, rfl, ?_⟩
        rw [dInt, dInt]
        refine ⟨_, rfl, _, rfl, ?_⟩
        refine ite2 (fun a4 => ?_) (fun a4 => ?_)
        · have b4 : y % 4 = 0 := by
            have := of_decide_eq_true a4
            omega
          refine ⟨_, rfl, _, rfl, ?_⟩
          refine ite2 (fun a1 => ?_) (fun a1 => ?_)
          · have b1 : ¬ y % 100 = 0 := by
              have : ¬ y / 100 * 100 = y := by simpa using a1
              omega
            have l : leap y = true := by
              unfold leap
              simp [b4, b1]
            rw [zz, l, if_pos rfl] at q1
            exact iteT q1
          · have b1 : y % 100 = 0 := by
              have : y / 100 * 100 = y := by simpa using a1
              omega
            refine ⟨_, rfl, y, 400, rfl, rfl, ⟨by decide, by decide⟩, _, 400, rfl, rfl, .inr (by decide), _, rfl, rfl, _, rfl, ?_⟩
            rw [dInt]
            refine ite2 (fun a0 => ?_) (fun a0 => ?_)
            · have b0 : y % 400 = 0 := by
                have := of_decide_eq_true a0
                omega
              have l : leap y = true := by
                unfold leap
                simp [b4, b0]
              rw [zz, l, if_pos rfl] at q1
              exact q1
            · have b0 : ¬ y % 400 = 0 := by
                have : ¬ y / 400 * 400 = y := by simpa using a0
                omega
              have l : leap y = false := by
                unfold leap
                simp [b1, b0]
              rw [zz, l] at q1
              exact q1
        · have b4 : ¬ y % 4 = 0 := by
            have : ¬ y / 4 * 4 = y := by simpa using a4
            omega
          have l : leap y = false := by
            unfold leap
            simp [b4]
          rw [zz, l] at q1
          exact iteF q1
end
end K4
namespace K4
open PySem PySem.Spec PyProof.Rows L2
/-! ## parts of days -/
abbrev pV (y : Int) (m d : Option Int) : List V := [.int y, oV m, oV d]
def spParts : Sp := fun vs H Q _ => ∃ (h : Addr) (n : Int), vs = [.ref h] ∧ Hand n H h ∧ n + 20 ≤ far ∧
  ∀ t y m d H', H' t = some (.tup (pV y m d)) → Good y m d → Hand (n + 9) H' h → But h H H' → Q (.ref t) H'
theorem Hand.fresh {n : Int} {H : Hp} {a l : Addr} (h : Hand n H a) (e : H l = none) : l ≠ a := by
  obtain ⟨xs, q⟩ := h.at_
  exact (ne_of_none q e).symm

section
variable {P : Program} {w : World} {K : PySem.W.Frag} {mg : Str → Option Value} {base : Heap} {C : Addr}

theorem ok_parts {f : Addr} {fd : FuncData} (D : Df K mg "_law_parts" ["_law_hand_here"] sParts f fd) (cT : Ca P w K mg base 1 "_law_take" ["_law_hand_here", "_law_many"] spTake)
    (cP : Ca P w K mg base 2 "_law_pick" ["_law_hand_here", "_law_some"] spPick) (cL : Ca P w K mg base 1 "_law_last" ["_law_y", "_law_m"] spLast) : FnOk P w K mg base CX0 3 f fd ["_law_hand_here"] spParts := by
  refine D.fn.ok scParts (fun vs H Q E h => ?_) (fun cdv A outer s H vs Q E hr h => ?_)
  · obtain ⟨h, n, rfl, _⟩ := h
    rfl
  · obtain ⟨h, n, rfl, hh, hn, q⟩ := h
    have fr : n + 20 ≤ 1000000 := hn
    refine ⟨_, pss_cons (ps_set (i := 1) scParts.nd rfl (.inl rfl) (pe_lst (pa_cons (pe_op op_add pe_int (pe_ca cT hr (by decide) (by rfl) (pa_cons (pv 0) (pa_cons pe_int pa_nil))))
          (pa_cons pe_int (pa_cons pe_int (pa_cons (pe_op op_mul pe_int (pe_op op_add pe_int (pe_ca cT hr (by decide) (by rfl) (pa_cons (pv 0) (pa_cons pe_int pa_nil)))))
            (pa_cons (pe_op op_mul pe_int (pe_op op_add pe_int (pe_ca cT hr (by decide) (by rfl) (pa_cons (pv 0) (pa_cons pe_int pa_nil))))) pa_nil)))))))
      (pss_cons (ps_set (i := 2) scParts.nd rfl (.inl rfl) (pe_ca cP hr (by decide) (by rfl) (pa_cons (pv 0) (pa_cons (pv 1) pa_nil))))
      (pss_cons (ps_par (i := 3) (j := 4) (by rfl) scParts.nd rfl rfl (by decide) rfl rfl (pa_cons (pe_ca cT hr (by decide) (by rfl) (pa_cons (pv 0) (pa_cons pe_int pa_nil)))
          (pa_cons (pe_ca cP hr (by decide) (by rfl) (pa_cons (pv 0) (pa_cons (pe_lst (pa_cons (pe_op op_add pe_int (pe_ca cT hr (by decide) (by rfl) (pa_cons (pv 0) (pa_cons pe_int pa_nil))))
            (pa_cons pe_int (pa_cons pe_int (pa_cons pe_int (pa_cons pe_int pa_nil)))))) pa_nil))) pa_nil)) (by rfl))
      (pss_cons (ps_set (i := 5) scParts.nd rfl (.inl rfl) (pe_ca cL hr (by decide) (by rfl) (pa_cons (pv 2) (pa_cons (pv 4) pa_nil))))
      (pss_cons (ps_set (i := 6) scParts.nd rfl (.inl rfl) (pe_ca cP hr (by decide) (by rfl) (pa_cons (pv 0) (pa_cons (pe_lst (pa_cons (pe_op op_add pe_int (pe_ca cT hr (by decide) (by rfl) (pa_cons (pv 0) (pa_cons (pv 5) pa_nil))))
            (pa_cons pe_int (pa_cons (pv 5) pa_nil)))) pa_nil))))
      (pss_one (ps_ret (pe_ix ix_list (pe_lst (pa_cons (pe_tup (pa_cons (pv 2) (pa_cons pe_non (pa_cons pe_non pa_nil)))) (pa_cons (pe_tup (pa_cons (pv 2) (pa_cons (pv 4) (pa_cons pe_non pa_nil))))
          (pa_cons (pe_tup (pa_cons (pv 2) (pa_cons (pv 4) (pa_cons (pv 6) pa_nil)))) pa_nil)))) (pv 3) (fun _ _ => rfl)))))))), ?_⟩
    -- some
    refine ⟨_, rfl, h, 9999, n, rfl, by decide, by decide, hh, by omega, fun a1 H1 a10 a11 h1 b1 => ?_⟩
    refine ⟨1, a1, rfl, rfl, ?_⟩
    refine ⟨_, rfl, h, 2499, n + 1, rfl, by decide, by decide, h1, by omega, fun a2 H2 a20 a21 h2 b2 => ?_⟩
    refine ⟨1, a2, rfl, rfl, 4, _, rfl, rfl, .inl (by decide), ?_⟩
    refine ⟨_, rfl, h, 99, n + 1 + 1, rfl, by decide, by decide, h2, by omega, fun a3 H3 a30 a31 h3 b3 => ?_⟩
    refine ⟨1, a3, rfl, rfl, 100, _, rfl, rfl, .inl (by decide), (by show 5 ≤ sizeLine; decide), fun l nl => ?_⟩
    -- y
    refine ⟨_, rfl, _, rfl, h, l, _, n + 1 + 1 + 1, rfl, upd_same, h3.fresh nl, by simp, by show 5 < 1000; decide, h3.same (same_upd nl), by omega, fun yv H4 my h4 b4 => ?_⟩
    obtain ⟨y, rfl, y1, y2⟩ : ∃ y : Int, yv = .int y ∧ 1 ≤ y ∧ y ≤ 9999 := by
      simp only [List.mem_cons, List.not_mem_nil, or_false] at my
      rcases my with e | e | e | e | e
      · exact ⟨_, e, by omega, by omega⟩
      · exact ⟨_, e, by decide, by decide⟩
      · exact ⟨_, e, by decide, by decide⟩
      · exact ⟨_, e, by omega, by omega⟩
      · exact ⟨_, e, by omega, by omega⟩
    -- tells, m
    refine ⟨_, rfl, h, 3, n + 1 + 1 + 1 + 1, rfl, by decide, by decide, h4, by omega, fun tl H5 t0 t1 h5 b5 => ?_⟩
    refine ⟨_, rfl, _, rfl, h, 12, n + 1 + 1 + 1 + 1 + 1, rfl, by decide, by decide, h5, by omega, fun a6 H6 a60 a61 h6 b6 => ?_⟩
    refine ⟨1, a6, rfl, rfl, (by show 5 ≤ sizeLine; decide), fun l2 nl2 => ?_⟩
    refine ⟨h, l2, _, n + 1 + 1 + 1 + 1 + 1 + 1, rfl, upd_same, h6.fresh nl2, by simp, by show 5 < 1000; decide, h6.same (same_upd nl2), by omega, fun mv H7 mm h7 b7 => ?_⟩
    obtain ⟨m, rfl, m1, m2⟩ : ∃ m : Int, mv = .int m ∧ 1 ≤ m ∧ m ≤ 12 := by
      simp only [List.mem_cons, List.not_mem_nil, or_false] at mm
      rcases mm with e | e | e | e | e
      · exact ⟨_, e, by omega, by omega⟩
      · exact ⟨_, e, by decide, by decide⟩
      · exact ⟨_, e, by decide, by decide⟩
      · exact ⟨_, e, by decide, by decide⟩
      · exact ⟨_, e, by decide, by decide⟩
    refine ⟨_, _, rfl, ?_⟩
    -- last_here
    refine ⟨_, rfl, _, rfl, y, m, rfl, fun H8 s8 => ?_⟩
    have h8 := h7.same s8
    have ld := lastDay_ge y m
    -- d
    refine ⟨_, rfl, _, rfl, _, rfl, h, lastDay y m, n + 1 + 1 + 1 + 1 + 1 + 1 + 1, rfl, by omega, by omega, h8, by omega, fun a9 H9 a90 a91 h9 b9 => ?_⟩
    refine ⟨1, a9, rfl, rfl, _, rfl, (by show 3 ≤ sizeLine; decide), fun l3 nl3 => ?_⟩
    refine ⟨h, l3, _, n + 1 + 1 + 1 + 1 + 1 + 1 + 1 + 1, rfl, upd_same, h9.fresh nl3, by simp, by show 3 < 1000; decide, h9.same (same_upd nl3), by omega, fun dv HA dm hA bA => ?_⟩
    obtain ⟨d, rfl, d1, d2⟩ : ∃ d : Int, dv = .int d ∧ 1 ≤ d ∧ d ≤ lastDay y m := by
      simp only [List.mem_cons, List.not_mem_nil, or_false] at dm
      rcases dm with e | e | e
      · exact ⟨_, e, by omega, by omega⟩
      · exact ⟨_, e, by decide, by omega⟩
      · exact ⟨_, e, by omega, by omega⟩
    -- the three
    refine ⟨_, rfl, (by show 3 ≤ sizeLine; decide), fun u1 n1 => ?_⟩
    refine ⟨_, rfl, _, rfl, (by show 3 ≤ sizeLine; decide), fun u2 n2 => ?_⟩
    refine ⟨_, rfl, _, rfl, _, rfl, (by show 3 ≤ sizeLine; decide), fun u3 n3 => ?_⟩
    refine ⟨(by show 3 ≤ sizeLine; decide), fun l4 nl4 => ?_⟩
    have sB := (((same_upd n1).trans (same_upd n2)).trans (same_upd n3)).trans (same_upd nl4 (o := .lst [.ref u1, .ref u2, .ref u3]))
    have hB := (hA.same sB).mono (show n + 1 + 1 + 1 + 1 + 1 + 1 + 1 + 1 + 1 ≤ n + 9 by omega)
    have bt : But h H _ := (((((((((b1.trans b2).trans b3).trans (Same.but (same_upd nl) h)).trans b4).trans b5).trans b6).trans (Same.but (same_upd nl2) h)).trans b7).trans (Same.but s8 h)).trans
      (((b9.trans (Same.but (same_upd nl3) h)).trans bA).trans (Same.but sB h))
    have e1 := (((same_upd n2).trans (same_upd n3)).trans (same_upd nl4 (o := .lst [.ref u1, .ref u2, .ref u3]))) u1 _ upd_same
    have e2 := ((same_upd n3).trans (same_upd nl4 (o := .lst [.ref u1, .ref u2, .ref u3]))) u2 _ upd_same
    have e3 := (same_upd nl4 (o := .lst [.ref u1, .ref u2, .ref u3])) u3 _ upd_same
    obtain ⟨j, rfl⟩ : ∃ j : Nat, tl = (j : Int) := ⟨tl.toNat, by omega⟩
    have hj : j < 3 := by omega
    match j, hj with
    | 0, _ => exact ⟨_, rfl, l4, _, _, _, rfl, rfl, SqL.of upd_same, atI_nat (j := 0) rfl, q u1 y none none _ e1 ⟨y1, y2, rfl⟩ hB bt⟩
    | 1, _ => exact ⟨_, rfl, l4, _, _, _, rfl, rfl, SqL.of upd_same, atI_nat (j := 1) rfl, q u2 y (some m) none _ e2 ⟨y1, y2, m1, m2, trivial⟩ hB bt⟩
    | 2, _ => exact ⟨_, rfl, l4, _, _, _, rfl, rfl, SqL.of upd_same, atI_nat (j := 2) rfl, q u3 y (some m) (some d) _ e3 ⟨y1, y2, m1, m2, d1, d2⟩ hB bt⟩

end
end K4
namespace K4
open PySem PySem.Spec PyProof.Rows L2
/-! ## what is shown of the parts of days -/
abbrev pD (y : Int) (m d : Option Int) : PyData := .tuple [.int y, oD m, oD d]
def Tiny (i : Int) : Prop := 0 ≤ i ∧ i < 10000
def TinyO : Option Int → Prop
  | none => True
  | some i => Tiny i
theorem good_tiny {y : Int} {m d : Option Int} (g : Good y m d) : Tiny y ∧ TinyO m ∧ TinyO d := by
  obtain ⟨g1, g2, g3⟩ := g
  refine ⟨⟨by omega, by omega⟩, ?_⟩
  cases m with
  | none =>
    have : d = none := g3
    subst this
    exact ⟨trivial, trivial⟩
  | some i =>
    obtain ⟨g4, g5, g6⟩ := g3
    have l := lastDay_ge y i
    refine ⟨⟨by omega, by omega⟩, ?_⟩
    cases d with
    | none => trivial
    | some j => exact ⟨by have := g6.1; omega, by have := g6.2; omega⟩
theorem int_small {i : Int} (h : Tiny i) : i.natAbs.log2 < 1920 := by
  have h1 : i.natAbs < 2 ^ 14 := by
    obtain ⟨a, b⟩ := h
    omega
  exact Nat.lt_of_lt_of_le (PySem.Flt.log2_lt_of (by decide) h1) (by decide)
theorem int_short {i : Int} (h : Tiny i) : (PyData.shown (.int i)).length ≤ 4 := by
  simp only [PyData.shown]
  exact toString_length_le h.1 (by decide) (by have := h.2; omega)
theorem oD_show {m : Option Int} (h : TinyO m) : (oD m).showable = true := by
  cases m with
  | none => simp [oD, PyData.showable]
  | some i => simpa [oD, PyData.showable] using int_small h
theorem oD_dict (m : Option Int) : (oD m).hasDict = false := by cases m <;> simp [oD, PyData.hasDict]
theorem oD_depth (m : Option Int) : (oD m).depth = 0 := by cases m <;> simp [oD, PyData.depth]
theorem oD_lay (m : Option Int) : (oD m).canLay0 = true := by cases m <;> simp [oD, PyData.canLay0]
theorem oD_short {m : Option Int} (h : TinyO m) : (oD m).shown.length ≤ 4 := by
  cases m with
  | none =>
    simp only [oD, PyData.shown]
    decide +kernel
  | some i => exact int_short h
structure Shows (d : PyData) (n : Nat) : Prop where
  sh : d.showable = true
  nd : d.hasDict = false
  dp : d.depth ≤ 5
  sz : d.shown.length ≤ n
theorem shows3 {y : Int} {m d : Option Int} (hy : Tiny y) (hm : TinyO m) (hd : TinyO d) : Shows (pD y m d) 30 := by
  refine ⟨?_, ?_, ?_, ?_⟩
  · have := int_small hy
    simp [PyData.showable, PyData.showableAll, oD_show hm, oD_show hd, this]
  · simp [PyData.hasDict, PyData.hasDictAll, oD_dict]
  · simp [PyData.depth, PyData.depthAll, oD_depth]
  · simp only [PyData.shown, PyData.shownAll]
    have a := fmt_text [PyData.shown (.int y), (oD m).shown, (oD d).shown]
    simp only [piled_cons, piled_nil] at a
    have b := int_short hy
    have c := oD_short hm
    have e := oD_short hd
    simp only [PyData.shown] at a b
    omega
theorem shows2 {d e : PyData} (hd : Shows d 30) (he : Shows e 30) (h1 : d.depth ≤ 3) (h2 : e.depth ≤ 3) : Shows (.tuple [d, e]) 100 := by
  refine ⟨?_, ?_, ?_, ?_⟩
  · simp [PyData.showable, PyData.showableAll, hd.sh, he.sh]
  · simp [PyData.hasDict, PyData.hasDictAll, hd.nd, he.nd]
  · simp only [PyData.depth, PyData.depthAll]
    omega
  · simp only [PyData.shown, PyData.shownAll]
    have a := fmt_text [d.shown, e.shown]
    simp only [piled_cons, piled_nil] at a
    have b := hd.sz
    have c := he.sz
    omega
theorem pD_depth (y : Int) (m d : Option Int) : (pD y m d).depth ≤ 3 := by
  simp [PyData.depth, PyData.depthAll, oD_depth]
theorem pD_shaped (y : Int) (m d : Option Int) : SeqAt.shaped (pD y m d) = true := by
  unfold SeqAt.shaped
  have h1 : (pD y m d).canLay0 = true := by simp [PyData.canLay0, PyData.canLayAll0, oD_lay]
  have h2 : (pD y m d).depth ≤ 64 := Nat.le_trans (pD_depth y m d) (by decide)
  rw [h1, decide_eq_true h2]
  rfl
theorem dpO {K : PySem.W.Frag} {H : Hp} (m : Option Int) : Dp K H (oV m) (oD m) := by
  cases m with
  | none => exact .non
  | some i => exact .int i
theorem dp3 {K : PySem.W.Frag} {H : Hp} {t : Addr} {y : Int} {m d : Option Int} (h : SqT K H t (pV y m d)) : Dp K H (.ref t) (pD y m d) := .tup h (.cons (.int y) (.cons (dpO m) (.cons (dpO d) .nil)))
theorem Shows.fit {d : PyData} {n : Nat} (s : Shows d n) (h : n ≤ 1000) : d.shown.length ≤ sizeLine := Nat.le_trans s.sz (Nat.le_of_lt (small1000 h))
end K4
namespace K4
open PySem PySem.Spec PyProof.Rows L2

/-! ## the order of days, by one number -/
abbrev Pt := Int × Option Int × Option Int
def GoodP (p : Pt) : Prop := Good p.1 p.2.1 p.2.2
def m1 (p : Pt) : Int := p.2.1.getD 1
def d1 (p : Pt) : Int := p.2.2.getD 1
def mE (p : Pt) : Int := p.2.1.getD 12
def dE (p : Pt) : Int := p.2.2.getD (lastDay p.1 (mE p))
def code (p : Pt) : Int := (((p.1 * 16 + m1 p) * 32 + d1 p) * 16 + mE p) * 32 + dE p
theorem good_bounds {p : Pt} (g : GoodP p) : 1 ≤ p.1 ∧ p.1 ≤ 9999 ∧ 1 ≤ m1 p ∧ m1 p ≤ 12 ∧ 1 ≤ d1 p ∧ d1 p ≤ 31 ∧ 1 ≤ mE p ∧ mE p ≤ 12 ∧ 1 ≤ dE p ∧ dE p ≤ 31 := by
  obtain ⟨y, m, d⟩ := p
  obtain ⟨g1, g2, g3⟩ := g
  simp only at g1 g2 g3
  unfold m1 d1 dE mE
  cases m with
  | none =>
    have : d = none := g3
    subst this
    have l := lastDay_ge y 12
    simp only [Option.getD_none]
    omega
  | some i =>
    obtain ⟨g4, g5, g6⟩ := g3
    have l := lastDay_ge y i
    cases d with
    | none =>
      simp only [Option.getD_none, Option.getD_some]
      omega
    | some j =>
      simp only at g6
      simp only [Option.getD_some]
      omega
theorem code_inj {p q : Pt} (gp : GoodP p) (gq : GoodP q) (e : code p = code q) : p = q := by
  have bp := good_bounds gp
  have bq := good_bounds gq
  have e5 : p.1 = q.1 ∧ m1 p = m1 q ∧ d1 p = d1 q ∧ mE p = mE q ∧ dE p = dE q := by
    unfold code at e
    omega
  obtain ⟨y, m, d⟩ := p
  obtain ⟨y', m', d'⟩ := q
  obtain ⟨_, _, g3⟩ := gp
  obtain ⟨_, _, g3'⟩ := gq
  simp only [m1, d1, mE, dE] at e5 g3 g3'
  obtain ⟨rfl, h1, h2, h3, h4⟩ := e5
  cases m with
  | none =>
    have : d = none := g3
    subst this
    cases m' with
    | none =>
      have : d' = none := g3'
      subst this
      rfl
    | some i' =>
      simp only [Option.getD_none, Option.getD_some] at h1 h3
      omega
  | some i =>
    cases m' with
    | none =>
      simp only [Option.getD_none, Option.getD_some] at h1 h3
      omega
    | some i' =>
      simp only [Option.getD_some] at h1 h3 h4
      subst h1
      have l := lastDay_ge y i
      cases d with
      | none =>
        cases d' with
        | none => rfl
        | some j' =>
          simp only [Option.getD_none, Option.getD_some] at h2 h4
          omega
      | some j =>
        cases d' with
        | none =>
          simp only [Option.getD_none, Option.getD_some] at h2 h4
          omega
        | some j' =>
          simp only [Option.getD_some] at h2
          rw [h2]
def reach (p : Pt) : List Int := [p.1, m1 p, d1 p, mE p, dE p]
theorem reach_le {p q : Pt} (gp : GoodP p) (gq : GoodP q) :
    Ob.lexAt (fun j => decide ((reach p).getD j 0 = (reach q).getD j 0)) (fun j => decide ((reach p).getD j 0 ≤ (reach q).getD j 0)) (decide ((reach p).length ≤ (reach q).length)) 0 (min (reach p).length (reach q).length) = decide (code p ≤ code q) := by
  have bp := good_bounds gp
  have bq := good_bounds gq
  unfold code
  show Ob.lexAt _ _ _ 0 5 = _
  simp only [Ob.lexAt, reach, List.getD_cons_zero, List.getD_cons_succ, decide_eq_true_eq]
  repeat' split
  all_goals (apply decide_eq_decide.mpr; first | omega | (constructor <;> intro _ <;> omega) | simp)
  all_goals omega
/-- what place_of tells of it -/
def kD (p : Pt) : PyData := .tuple [pD p.1 (some (m1 p)) (some (d1 p)), pD p.1 (some (mE p)) (some (dE p))]
theorem kD_toks (p : Pt) : PySem.W.keyToks (kD p) = [.inl 1, .inl 1, .inl p.1, .inl 1, .inl (m1 p), .inl 1, .inl (d1 p), .inl 0, .inl 1, .inl 1, .inl p.1, .inl 1, .inl (mE p), .inl 1, .inl (dE p), .inl 0, .inl 0] := by
  simp [kD, PySem.W.keyToks, PySem.W.keyToksAll, oD]
theorem lexI {a b : Int} {r t : List (Int ⊕ List Nat)} : PyProof.Rows.lexLt PyProof.Rows.itemOrd (.inl a :: r) (.inl b :: t) = true ↔ a < b ∨ (¬ b < a ∧ PyProof.Rows.lexLt PyProof.Rows.itemOrd r t = true) := by
  rw [PyProof.Rows.lex_true]
  show decide (a < b) = true ∨ (decide (b < a) = false ∧ _) ↔ _
  rw [decide_eq_true_eq, decide_eq_false_iff_not]
theorem lexN : (PyProof.Rows.lexLt PyProof.Rows.itemOrd [] [] = true) ↔ False := ⟨fun z => Bool.false_ne_true z, False.elim⟩
theorem key_le {kd : V → PyData} {x y : V} {p q : Pt} (gp : GoodP p) (gq : GoodP q) (ex : kd x = kD p) (ey : kd y = kD q) : PySem.W.dataLe false kd x y = decide (code p ≤ code q) := by
  have bp := good_bounds gp
  have bq := good_bounds gq
  show (!PyProof.Rows.lexLt PyProof.Rows.itemOrd (PySem.W.keyToks (kd y)) (PySem.W.keyToks (kd x))) = _
  rw [ex, ey, kD_toks, kD_toks]
  apply Bool.eq_iff_iff.mpr
  rw [Bool.not_eq_true', ← Bool.not_eq_true, decide_eq_true_eq]
  rw [show (PyProof.Rows.lexLt PyProof.Rows.itemOrd ([.inl 1, .inl 1, .inl q.1, .inl 1, .inl (m1 q), .inl 1, .inl (d1 q), .inl 0, .inl 1, .inl 1, .inl q.1, .inl 1, .inl (mE q), .inl 1, .inl (dE q), .inl 0, .inl 0] : List (Int ⊕ List Nat))
      ([.inl 1, .inl 1, .inl p.1, .inl 1, .inl (m1 p), .inl 1, .inl (d1 p), .inl 0, .inl 1, .inl 1, .inl p.1, .inl 1, .inl (mE p), .inl 1, .inl (dE p), .inl 0, .inl 0] : List (Int ⊕ List Nat)) = true) ↔ code q < code p from by
    rw [lexI, lexI, lexI, lexI, lexI, lexI, lexI, lexI, lexI, lexI, lexI, lexI, lexI, lexI, lexI, lexI, lexI, lexN]
    simp only [Int.lt_irrefl, false_or, not_false_eq_true, true_and, and_false, or_false]
    unfold code
    constructor
    · intro z
      omega
    · intro z
      by_cases c1 : q.1 < p.1
      · exact .inl c1
      · by_cases c2 : m1 q < m1 p
        · omega
        · by_cases c3 : d1 q < d1 p
          · omega
          · by_cases c4 : mE q < mE p <;> omega]
  omega

/-! ## what a sort comes to -/
def Up (l : List Pt) : Prop := l.Pairwise fun p q => code p ≤ code q
theorem up_unique {l l' : List Pt} (g : ∀ p ∈ l, GoodP p) (u : Up l) (u' : Up l') (pm : l.Perm l') : l = l' := by
  refine List.Perm.eq_of_pairwise (le := fun p q => code p ≤ code q) (fun p q hp hq a b => ?_) u u' pm
  exact code_inj (g p hp) (g q (pm.symm.mem_iff.mp hq)) (by omega)
/-- put behind all that are not above it -/
def put (p : Pt) (l : List Pt) : List Pt := l.take (l.countP fun q => decide (code q ≤ code p)) ++ [p] ++ l.drop (l.countP fun q => decide (code q ≤ code p))
theorem put_perm (p : Pt) (l : List Pt) : (put p l).Perm (p :: l) := by
  unfold put
  rw [List.append_assoc]
  refine (List.perm_append_comm_assoc _ _ _).trans ?_
  show (p :: (l.take _ ++ l.drop _)).Perm _
  rw [List.take_append_drop]
theorem put_up (p : Pt) : ∀ (l : List Pt), Up l → Up (put p l)
  | [], _ => by
    unfold put Up
    simp
  | q :: l, u => by
    have uq := (List.pairwise_cons.mp u).1
    have ul : Up l := (List.pairwise_cons.mp u).2
    by_cases h : code q ≤ code p
    · have e : put p (q :: l) = q :: put p l := by
        unfold put
        rw [List.countP_cons_of_pos (by simpa using h)]
        rfl
      rw [e]
      refine List.pairwise_cons.mpr ⟨fun z hz => ?_, put_up p l ul⟩
      rcases List.mem_cons.mp ((put_perm p l).mem_iff.mp hz) with e | e
      · rw [e]
        exact h
      · exact uq z e
    · have c0 : (q :: l).countP (fun z => decide (code z ≤ code p)) = 0 := by
        refine List.countP_eq_zero.mpr fun z hz => ?_
        rcases List.mem_cons.mp hz with e | e
        · rw [e]
          simpa using h
        · have := uq z e
          simp only [decide_eq_true_eq]
          omega
      unfold put
      rw [c0]
      show Up (p :: q :: l)
      refine List.pairwise_cons.mpr ⟨fun z hz => ?_, u⟩
      rcases List.mem_cons.mp hz with e | e
      · rw [e]
        omega
      · have := uq z e
        omega
/-- all of them, one by one -/
def puts : List Pt → List Pt → List Pt
  | acc, [] => acc
  | acc, p :: r => puts (put p acc) r
end K4
namespace K4
open PySem PySem.Spec PyProof.Rows L2

/-! ## by_day -/
def unV : V → Option Int
  | .int i => some i
  | _ => none
theorem unV_oV (m : Option Int) : unV (oV m) = m := by cases m <;> rfl
/-- the parts of the Day at an address -/
def ptOf (H : Hp) : V → Pt
  | .ref a => match H a with
    | some (.ins _ _ [(_, .int y), (_, m), (_, d)]) => (y, unV m, unV d)
    | _ => (0, none, none)
  | _ => (0, none, none)
def DayP (C : Addr) (H : Hp) (x : V) (p : Pt) : Prop := ∃ a, x = .ref a ∧ DayAt C H a p.1 p.2.1 p.2.2
theorem DayP.pt {C : Addr} {H : Hp} {x : V} {p : Pt} (h : DayP C H x p) : ptOf H x = p := by
  obtain ⟨a, rfl, dx, e⟩ := h
  dsimp only [ptOf]
  rw [e]
  show (p.1, unV (oV p.2.1), unV (oV p.2.2)) = p
  rw [unV_oV, unV_oV]
theorem DayP.same {C : Addr} {H H' : Hp} {x : V} {p : Pt} (h : DayP C H x p) (s : Same H H') : DayP C H' x p := by
  obtain ⟨a, e, d⟩ := h
  exact ⟨a, e, d.same s⟩
abbrev Days (C : Addr) (H : Hp) (xs : List V) (ps : List Pt) : Prop := Paired (DayP C H) xs ps
theorem Days.same {C : Addr} {H H' : Hp} {xs : List V} {ps : List Pt} (h : Days C H xs ps) (s : Same H H') : Days C H' xs ps := Paired.mapP h fun _ _ d => d.same s
theorem Days.pts {C : Addr} {H : Hp} : ∀ {xs : List V} {ps : List Pt}, Days C H xs ps → xs.map (ptOf H) = ps
  | _, _, .nil => rfl
  | _, _, .cons d t => by
    rw [List.map_cons, d.pt, Days.pts t]
theorem Days.mem {C : Addr} {H : Hp} : ∀ {xs : List V} {ps : List Pt}, Days C H xs ps → ∀ x ∈ xs, ∃ p ∈ ps, DayP C H x p
  | _, _, .nil, x, hx => by cases hx
  | _, _, .cons (b := b) d t, x, hx => by
    rcases List.mem_cons.mp hx with e | e
    · rw [e]
      exact ⟨b, List.mem_cons_self, d⟩
    · obtain ⟨p, h1, h2⟩ := Days.mem t x e
      exact ⟨p, List.mem_cons_of_mem _ h1, h2⟩
theorem days_of {C : Addr} {H : Hp} : ∀ {xs : List V}, (∀ x ∈ xs, DayP C H x (ptOf H x)) → Days C H xs (xs.map (ptOf H))
  | [], _ => .nil
  | x :: xs, h => .cons (h x List.mem_cons_self) (days_of fun y hy => h y (List.mem_cons_of_mem _ hy))

def spPartsOf (C : Addr) : Sp := fun vs H Q _ => ∃ (x : Addr) (y : Int) (m d : Option Int), vs = [.ref x] ∧ DayAt C H x y m d ∧ ∀ t, H t = none → Q (.ref t) (upd H t (.tup (pV y m d)))
def spPlace (K : PySem.W.Frag) (C : Addr) : Sp := fun vs H Q _ => ∃ (x : V) (p : Pt), vs = [x] ∧ DayP C H x p ∧ GoodP p ∧ ∀ v H', Same H H' → Dp K H' v (kD p) → Q v H'
def spByDay (K : PySem.W.Frag) (C : Addr) : Sp := fun vs H Q _ => ∃ (l : Addr) (xs : List V) (ps : List Pt) (down : Bool), vs = [.ref l, .bl down] ∧ (SqL K H l xs ∨ SqT K H l xs) ∧ Days C H xs ps ∧ (∀ p ∈ ps, GoodP p) ∧
  ∀ H' r ys qs, Same H H' → H r = none → H' r = some (.lst ys) → Days C H' ys qs → qs.Perm ps → Up (if down = true then qs.reverse else qs) → Q (.ref r) H'

section
variable {P : Program} {w : World} {K : PySem.W.Frag} {mg : Str → Option Value} {base : Heap} {C : Addr}
theorem ok_partsOf {f : Addr} {fd : FuncData} (D : Df K mg "parts_of" ["day"] sPartsOf f fd) (T : Txt K mg C) : FnOk P w K mg base CX0 1 f fd ["day"] (spPartsOf C) := by
  refine D.fn.ok scPartsOf (fun vs H Q E h => ?_) (fun cdv A outer s H vs Q E hr h => ?_)
  · obtain ⟨x, y, m, d, rfl, _⟩ := h
    rfl
  · obtain ⟨x, y, m, d, rfl, ⟨dx, ha⟩, q⟩ := h
    refine ⟨_, pss_one (ps_ret (pe_tup (pa_cons (pe_fld (pv 0) rfl) (pa_cons (pe_fld (pv 0) rfl) (pa_cons (pe_fld (pv 0) rfl) pa_nil))))), ?_⟩
    refine ⟨_, rfl, x, C, dx, _, _, rfl, ha, T.cl, T.nY, f_y _ _ _, _, rfl, x, C, dx, _, _, rfl, ha, T.cl, T.nM, f_m _ _ _, _, rfl, x, C, dx, _, _, rfl, ha, T.cl, T.nD, f_d _ _ _, (by show 3 ≤ sizeLine; decide), q⟩

theorem ok_place {f : Addr} {fd : FuncData} (D : Df K mg "place_of" ["day"] sPlace f fd) (T : Txt K mg C) (cP : Ca P w K mg base 1 "parts_of" ["day"] (spPartsOf C)) (cF : Ca P w K mg base 6 "earliest" ["day"] (spEarliest C))
    (cL : Ca P w K mg base 6 "latest" ["day"] (spLatest C)) : FnOk P w K mg base CX0 7 f fd ["day"] (spPlace K C) := by
  refine D.fn.ok scPlace (fun vs H Q E h => ?_) (fun cdv A outer s H vs Q E hr h => ?_)
  · obtain ⟨x, p, rfl, _⟩ := h
    rfl
  · obtain ⟨_, p, rfl, ⟨a, rfl, da⟩, g, q⟩ := h
    refine ⟨_, pss_one (ps_ret (pe_tup (pa_cons (pe_ca cP hr (by decide) (by rfl) (pa_cons (pe_ca cF hr (by decide) (by rfl) (pa_cons (pv 0) pa_nil)) pa_nil))
      (pa_cons (pe_ca cP hr (by decide) (by rfl) (pa_cons (pe_ca cL hr (by decide) (by rfl) (pa_cons (pv 0) pa_nil)) pa_nil)) pa_nil)))), ?_⟩
    refine ⟨_, rfl, a, p.1, p.2.1, p.2.2, rfl, da, g, fun H1 x s1 d1' => ?_⟩
    refine ⟨x, p.1, _, _, rfl, d1', fun t1 n1 => ?_⟩
    have s2 := s1.trans (same_upd n1 (o := .tup (pV p.1 (some (m1 p)) (some (d1 p)))))
    refine ⟨_, rfl, a, p.1, p.2.1, p.2.2, rfl, da.same s2, g, fun H2 z s3 d2' => ?_⟩
    refine ⟨z, p.1, _, _, rfl, d2', fun t2 n2 => ⟨(by show 2 ≤ sizeLine; decide), fun t3 n3 => ?_⟩⟩
    have e1 := ((s3.trans (same_upd n2 (o := .tup (pV p.1 (some (mE p)) (some (dE p)))))).trans (same_upd n3 (o := .tup [.ref t1, .ref t2]))) t1 _ upd_same
    have e2 := (same_upd n3 (o := .tup [.ref t1, .ref t2])) t2 _ (upd_same (o := .tup (pV p.1 (some (mE p)) (some (dE p)))))
    refine q _ _ (((s2.trans s3).trans (same_upd n2)).trans (same_upd n3)) ?_
    exact .tup (SqT.of upd_same) (.cons (dp3 (SqT.of e1)) (.cons (dp3 (SqT.of e2)) .nil))

theorem ok_byDay {f fP : Addr} {fd fdP : FuncData} (F : FunD K "by_day" "by_day" (defArgs sByDay) (defBody sByDay) (defScope sByDay) [.bl false] [] f fd) (T : Txt K mg C) (DP : Df K mg "place_of" ["day"] sPlace fP fdP)
    (FP : FnOk P w K mg base CX0 7 fP fdP ["day"] (spPlace K C)) : FnOk P w K mg base CX0 10 f fd ["days", "down"] (spByDay K C) := by
  refine F.ok (CX := CX0) scByDay (fun vs H Q E h => ?_) (fun cdv A outer s H vs Q E hr h => ?_)
  · obtain ⟨l, xs, ps, down, rfl, _⟩ := h
    rfl
  · obtain ⟨l, xs, ps, down, rfl, hq, hd, hg, q⟩ := h
    refine ⟨_, PSs.nox (pss_cons (ps_set (i := 2) scByDay.nd rfl (.inl rfl) (pe_callBK (cr_sortBy hr FP DP.bd) (by rfl) T.sorted (by decide +kernel) (pa_cons (pv 0) pa_nil) (pk_cons (pe_glob (v := .ref fP) (by rfl) DP.mgf rfl) pk_nil)))
      (pss_one (ps_ret (pe_ifExp (pt_val (pv 1)) (L2.pe_revL (pv 2)) (pv 2))))), ?_⟩
    have day : ∀ x ∈ xs, DayP C H x (ptOf H x) ∧ GoodP (ptOf H x) := fun x hx => by
      obtain ⟨p, hp, dp⟩ := hd.mem x hx
      rw [dp.pt]
      exact ⟨dp, hg p hp⟩
    refine ⟨_, rfl, l, xs, fun x => kD (ptOf H x), rfl, rfl, hq, fun H' Q' sm x hx k => ?_, fun d hd1 e hd2 => ?_, .inl fun d hd1 => ?_, fun x hx => ?_, fun H' a sm na => ?_⟩
    · exact ⟨x, ptOf H x, rfl, (day x hx).1.same sm, (day x hx).2, k⟩
    · obtain ⟨x, _, rfl⟩ := List.mem_map.mp hd1
      obtain ⟨z, _, rfl⟩ := List.mem_map.mp hd2
      simp [kD, PySem.W.alike, PySem.W.alikeAll, oD]
    · obtain ⟨x, _, rfl⟩ := List.mem_map.mp hd1
      exact ⟨_, _, rfl⟩
    · simp [kD, PyData.depth, PyData.depthAll, oD]
    · have pm : (xs.mergeSort (PySem.W.dataLe false fun x => kD (ptOf H x))).Perm xs := List.mergeSort_perm _ _
      have inx : ∀ x ∈ xs.mergeSort (PySem.W.dataLe false fun x => kD (ptOf H x)), x ∈ xs := fun x hx => pm.mem_iff.mp hx
      generalize hys : xs.mergeSort (PySem.W.dataLe false fun x => kD (ptOf H x)) = ys at pm inx
      have up : Up (ys.map (ptOf H)) := by
        unfold Up
        rw [List.pairwise_map, ← hys]
        have so := PySem.W.sortLe_total (PyProof.Rows.listOrd PyProof.Rows.itemOrd) false fun x : V => PySem.W.keyToks (kD (ptOf H x))
        have pw := List.pairwise_mergeSort (le := PySem.W.dataLe false fun x => kD (ptOf H x)) so.trans (fun a b => Bool.or_eq_true_iff.mpr (so.total a b)) xs
        refine pw.imp_of_mem fun {a b} ha hb z => ?_
        rw [hys] at ha hb
        rw [key_le (day a (inx a ha)).2 (day b (inx b hb)).2 rfl rfl] at z
        exact of_decide_eq_true z
      have sm1 : Same H (upd H' a (.lst ys)) := sm.trans (same_upd na)
      have hdy : Days C (upd H' a (.lst ys)) ys (ys.map (ptOf H)) := Days.same (days_of fun x hx => (day x (inx x hx)).1) sm1
      have pmP : (ys.map (ptOf H)).Perm ps := by
        rw [← hd.pts]
        exact pm.map _
      refine ⟨_, rfl, _, rfl, ?_⟩
      cases down with
      | false => exact iteF ⟨_, rfl, q _ a ys _ sm1 (sm.free na) upd_same hdy pmP up⟩
      | true =>
        refine iteT ⟨_, rfl, a, ys, rfl, SqL.of upd_same, fun r nr => ?_⟩
        refine q _ r ys.reverse (ys.map (ptOf H)).reverse (sm1.trans (same_upd nr)) (sm1.free nr) upd_same ?_ ((List.reverse_perm _).trans pmP) ?_
        · rw [← List.map_reverse]
          exact Days.same (days_of fun x hx => (day x (inx x (List.mem_reverse.mp hx))).1) (sm1.trans (same_upd nr))
        · rw [if_pos rfl, List.reverse_reverse]
          exact up
end
end K4
namespace K4
open PySem PySem.Spec PyProof.Rows L2

abbrev pVp (p : Pt) : List V := pV p.1 p.2.1 p.2.2
abbrev pDp (p : Pt) : PyData := pD p.1 p.2.1 p.2.2
/-- a tuple of these parts stands there -/
def TupP (H : Hp) (v : V) (p : Pt) : Prop := ∃ t, v = .ref t ∧ H t = some (.tup (pVp p))
abbrev Tups (H : Hp) (ts : List V) (ps : List Pt) : Prop := Paired (TupP H) ts ps
/-- all that stood there but at o -/
theorem Tups.step {H H' : Hp} {ts : List V} {ps : List Pt} (h : Tups H ts ps) (k : ∀ b xs, H b = some (.tup xs) → H' b = some (.tup xs)) : Tups H' ts ps :=
  Paired.mapP h fun v p q => by
    obtain ⟨t, e, ht⟩ := q
    exact ⟨t, e, k _ _ ht⟩
theorem Tups.same {H H' : Hp} {ts : List V} {ps : List Pt} (h : Tups H ts ps) (s : Same H H') : Tups H' ts ps := h.step fun b xs e => s _ _ e
theorem but_tup {h : Addr} {H H' : Hp} {xs : List V} (e : H h = some (.lst xs)) (s : But h H H') : ∀ b zs, H b = some (.tup zs) → H' b = some (.tup zs) := fun b zs q => s _ _ (ne_of q e (by intro z; cases z)) q
theorem Tups.take {H : Hp} : ∀ {ts : List V} {ps : List Pt} (n : Nat), Tups H ts ps → Tups H (ts.take n) (ps.take n)
  | _, _, 0, _ => .nil
  | _, _, _ + 1, .nil => .nil
  | _, _, n + 1, .cons r t => .cons r (Tups.take n t)
theorem Tups.drop {H : Hp} : ∀ {ts : List V} {ps : List Pt} (n : Nat), Tups H ts ps → Tups H (ts.drop n) (ps.drop n)
  | _, _, 0, r => r
  | _, _, _ + 1, .nil => .nil
  | _, _, n + 1, .cons _ t => Tups.drop n t
theorem Tups.app {H : Hp} : ∀ {ts us : List V} {ps qs : List Pt}, Tups H ts ps → Tups H us qs → Tups H (ts ++ us) (ps ++ qs)
  | _, _, _, _, .nil, s => s
  | _, _, _, _, .cons r t, s => .cons r (Tups.app t s)
theorem Tups.len {H : Hp} {ts : List V} {ps : List Pt} (h : Tups H ts ps) : ts.length = ps.length := Paired.length h
theorem Tups.get {H : Hp} : ∀ {ts : List V} {ps : List Pt} {i : Nat} {v : V}, Tups H ts ps → ts[i]? = some v → ∃ p, ps[i]? = some p ∧ TupP H v p
  | _, _, _, _, .nil, e => by simp at e
  | _, _, 0, _, .cons r _, e => by
    simp at e
    subst e
    exact ⟨_, rfl, r⟩
  | _, _, i + 1, v, .cons _ t, e => by
    obtain ⟨p, h1, h2⟩ := Tups.get (i := i) (v := v) t (by simpa using e)
    exact ⟨p, by simpa using h1, h2⟩
theorem Tups.dp {K : PySem.W.Frag} {H : Hp} : ∀ {ts : List V} {ps : List Pt}, Tups H ts ps → DpAll K H ts (ps.map pDp)
  | _, _, .nil => .nil
  | _, _, .cons r t => by
    obtain ⟨a, rfl, e⟩ := r
    exact .cons (dp3 (SqT.of e)) (Tups.dp t)

theorem days_get {C : Addr} {H : Hp} : ∀ {xs : List V} {ps : List Pt} {i : Nat} {v : V}, Days C H xs ps → xs[i]? = some v → ∃ p, ps[i]? = some p ∧ DayP C H v p
  | _, _, _, _, .nil, e => by simp at e
  | _, _, 0, _, .cons r _, e => by
    simp at e
    subst e
    exact ⟨_, rfl, r⟩
  | _, _, i + 1, v, .cons _ t, e => by
    obtain ⟨p, h1, h2⟩ := days_get (i := i) (v := v) t (by simpa using e)
    exact ⟨p, by simpa using h1, h2⟩
def spReach : Sp := fun vs H Q _ => ∃ (t : Addr) (p : Pt), vs = [.ref t] ∧ H t = some (.tup (pVp p)) ∧ GoodP p ∧ ∀ H' r, Same H H' → H' r = some (.tup ((reach p).map V.int)) → Q (.ref r) H'
def spPut : Sp := fun vs H Q _ => ∃ (t o : Addr) (p : Pt) (ts : List V) (ps : List Pt), vs = [.ref t, .ref o] ∧ H t = some (.tup (pVp p)) ∧ GoodP p ∧ H o = some (.lst ts) ∧ Tups H ts ps ∧ (∀ q ∈ ps, GoodP q) ∧ ts.length ≤ 100 ∧
  ∀ H' ts', But o H H' → H' o = some (.lst ts') → Tups H' ts' (put p ps) → Q .non H'
def LD (ps : List Pt) : PyData := .list (ps.map pDp)
def spTold (K : PySem.W.Frag) (C : Addr) : Sp := fun vs H Q _ => ∃ (l : Addr) (xs : List V) (ps : List Pt), vs = [.ref l] ∧ (SqL K H l xs ∨ SqT K H l xs) ∧ Days C H xs ps ∧ xs.length ≤ 100 ∧
  ∀ H' r, Same H H' → Dp K H' (.ref r) (LD ps) → Q (.ref r) H'

section
variable {P : Program} {w : World} {K : PySem.W.Frag} {mg : Str → Option Value} {base : Heap} {C : Addr}
theorem ok_reach {f : Addr} {fd : FuncData} (D : Df K mg "_law_reach" ["_law_parts_here"] sReach f fd) (cL : Ca P w K mg base 1 "_law_last" ["_law_y", "_law_m"] spLast) : FnOk P w K mg base CX0 2 f fd ["_law_parts_here"] spReach := by
  refine D.fn.ok scReach (fun vs H Q E h => ?_) (fun cdv A outer s H vs Q E hr h => ?_)
  · obtain ⟨t, p, rfl, _⟩ := h
    rfl
  · obtain ⟨t, ⟨y, m, d⟩, rfl, ht, g, q⟩ := h
    refine ⟨_, pss_cons (ps_asg (pv 0) (pg_tup (by rfl) (pgs_cons (pg_name (i := 1) scReach.nd rfl (.inl rfl)) (pgs_cons (pg_name (i := 2) scReach.nd rfl (.inl rfl)) (pgs_cons (pg_name (i := 3) scReach.nd rfl (.inl rfl)) pgs_nil)))))
      (pss_cons (ps_set (i := 4) scReach.nd rfl (.inl rfl) (pe_orT (pv 2) (pe_one pe_int)))
      (pss_one (ps_ret (pe_tup (pa_cons (pv 1) (pa_cons (pe_orT (pv 2) (pe_one pe_int)) (pa_cons (pe_orT (pv 3) (pe_one pe_int)) (pa_cons (pv 4)
        (pa_cons (pe_orT (pv 3) (pe_one (pe_ca cL hr (by decide) (by rfl) (pa_cons (pv 1) (pa_cons (pv 4) pa_nil))))) pa_nil))))))))), ?_⟩
    obtain ⟨g1, g2, g3⟩ := g
    refine ⟨_, rfl, t, _, rfl, SqT.of ht, rfl, _, _, rfl, _, _, rfl, _, _, rfl, rfl, ?_⟩
    have tr : ∀ i : Int, 1 ≤ i → (true : Bool) = (i != 0) := fun i h => by
      have : i ≠ 0 := by omega
      simp [this]
    cases m with
    | none =>
      have ed : d = none := g3
      subst ed
      refine ⟨_, rfl, false, rfl, iteF ?_⟩
      refine ⟨_, rfl, _, rfl, false, rfl, iteF ⟨_, rfl, false, rfl, iteF ⟨_, rfl, _, rfl, false, rfl, iteF ?_⟩⟩⟩
      refine ⟨_, rfl, _, rfl, y, 12, rfl, fun H2 s2 => ⟨(by show 5 ≤ sizeLine; decide), fun r n => ?_⟩⟩
      exact q _ r (s2.trans (same_upd n)) upd_same
    | some i =>
      obtain ⟨g4, g5, g6⟩ := g3
      refine ⟨_, rfl, true, tr i g4, iteT ?_⟩
      cases d with
      | none =>
        refine ⟨_, rfl, _, rfl, true, tr i g4, iteT ⟨_, rfl, false, rfl, iteF ⟨_, rfl, _, rfl, false, rfl, iteF ?_⟩⟩⟩
        refine ⟨_, rfl, _, rfl, y, i, rfl, fun H2 s2 => ⟨(by show 5 ≤ sizeLine; decide), fun r n => ?_⟩⟩
        exact q _ r (s2.trans (same_upd n)) upd_same
      | some j =>
        refine ⟨_, rfl, _, rfl, true, tr i g4, iteT ⟨_, rfl, true, tr j g6.1, iteT ⟨_, rfl, _, rfl, true, tr j g6.1, iteT ?_⟩⟩⟩
        exact ⟨(by show 5 ≤ sizeLine; decide), fun r n => q _ r (same_upd n) upd_same⟩

theorem ok_put {f : Addr} {fd : FuncData} (D : Df K mg "_law_put" ["_law_parts_here", "_law_order"] sPut f fd) (T : Txt K mg C) (cR : Ca P w K mg base 2 "_law_reach" ["_law_parts_here"] spReach) :
    FnOk P w K mg base CX0 3 f fd ["_law_parts_here", "_law_order"] spPut := by
  refine D.fn.ok scPut (fun vs H Q E h => ?_) (fun cdv A outer s H vs Q E hr h => ?_)
  · obtain ⟨t, o, p, ts, ps, rfl, _⟩ := h
    rfl
  · obtain ⟨t, o, p, ts, ps, rfl, ht, g, ho, hts, hg, few, q⟩ := h
    refine ⟨_, pss_cons (ps_set (i := 2) scPut.nd rfl (.inl rfl) (pe_callB call_len_seq (by rfl) T.len PySem.boot_len (pa_cons (pe_lc (own := [("_law_one", 3)]) (g := gName 3)
        (tt := tTest (tOp (rLeT K) (tCall spReach [] E0 (tCons (tVar 3) tNil)) (tCall spReach [] E0 (tCons (tVar 0) tNil)))) (by rfl) scPut.nd (pi_list (pv 1))
        (blkOk_by (own := [("_law_one", 3)]) (N := ["_law_parts_here", "_law_order", "_law_at", "_law_one"]) (sc := defScope sPut) (by decide +kernel)) (fun _ _ _ _ _ => pg_name (i := 3) scPut.nd rfl (.inl rfl))
        (fun _ _ _ _ _ => pts_one (pt_cmpR (op_leT hr.units0) (pe_ca cR hr (by decide) (by rfl) (pa_cons (pv 3) pa_nil)) (pe_ca cR hr (by decide) (by rfl) (pa_cons (pv 0) pa_nil)) (nomark _)))
        (fun _ _ _ _ _ => pv 3)) pa_nil)))
      (pss_one (ps_expr (pe_bm PySem.F.plainAttrs_list PySem.F.slot_list_insert PySem.F.type_list_insert mt_insert (pv 1) (pa_cons (pv 2) (pa_cons (pv 0) pa_nil))))), ?_⟩
    refine ⟨_, rfl, o, rfl, ⟨_, SqL.of ho⟩, fun L nL => ?_⟩
    have nLo : o ≠ L := ne_of_none ho nL
    refine lc_list (K := K) (a := o) (xs := ts) (fun i Hi => Same H Hi ∧ ∃ acc, Hi L = some (.lst acc) ∧ acc.length = (ps.take i).countP (fun z => decide (code z ≤ code p))) ⟨same_upd nL, [], upd_same, by simp⟩ (fun i Hi _ z => z.1.seq (SqL.of ho)) ?_ ?_
    · rintro i x Hi hx ⟨sm, acc, hL, la⟩
      obtain ⟨pi, hpi, tx, rfl, etx⟩ := hts.get hx
      have hi : i < ts.length := (List.getElem?_eq_some_iff.mp hx).1
      have gi : GoodP pi := hg pi (List.mem_of_getElem? hpi)
      have tk : ps.take (i + 1) = ps.take i ++ [pi] := by
        rw [List.take_add_one, hpi]
        rfl
      refine ⟨rfl, ?_⟩
      refine ⟨_, rfl, tx, pi, rfl, sm _ _ etx, gi, fun H1 r1 s1 e1 => ?_⟩
      refine ⟨_, rfl, t, p, rfl, s1 _ _ (sm _ _ ht), g, fun H2 r2 s2 e2 => ?_⟩
      refine ⟨r1, r2, reach pi, reach p, rfl, rfl, SqT.of (s2 _ _ e1), SqT.of e2, _, rfl, ?_⟩
      rw [reach_le gi g]
      have sm2 : Same H H2 := (sm.trans s1).trans s2
      have hL2 : H2 L = some (.lst acc) := s2 _ _ (s1 _ _ hL)
      refine ite2 (fun c => ?_) (fun c => ?_)
      · refine ⟨_, rfl, acc, hL2, ?_, fun b z e => ?_, acc ++ [.ref tx], upd_same, ?_⟩
        · have z := List.countP_le_length (p := fun z => decide (code z ≤ code p)) (l := ps.take i)
          rw [List.length_take] at z
          exact small1000 (by omega)
        · rw [upd_ne (ne_of_none e nL)]
          exact sm2 _ _ e
        · rw [tk, List.countP_append, List.length_append, la, List.countP_singleton, c]
          rfl
      · refine ⟨sm2, acc, hL2, ?_⟩
        rw [tk, List.countP_append, la, List.countP_singleton, if_neg c]
        rfl
    · rintro He ⟨sm, acc, hL, la⟩
      rw [hts.len, List.take_length] at la
      refine ⟨L, acc, rfl, .inl (SqL.of hL), ?_⟩
      have lt : acc.length < 200 := by
        have z := List.countP_le_length (p := fun z => decide (code z ≤ code p)) (l := ps)
        have := hts.len
        omega
      refine ⟨_, rfl, .inl ⟨rfl, _, SqL.of (sm _ _ ho)⟩, _, rfl, _, rfl, o, ts, (acc.length : Int), .ref t, rfl, rfl, sm _ _ ho, small1000 (by omega), by omega, by omega, ?_⟩
      rw [Int.toNat_natCast, la]
      refine q _ _ (fun b z nb e => ?_) upd_same ?_
      · rw [upd_ne nb]
        exact sm _ _ e
      · refine Tups.step (H := He) ?_ fun b xs e => ?_
        · exact Tups.app (Tups.app (Tups.take _ (hts.same sm)) (.cons ⟨t, rfl, sm _ _ ht⟩ .nil)) (Tups.drop _ (hts.same sm))
        · rw [upd_ne (ne_of e (sm _ _ ho) (by intro z; cases z))]
          exact e

theorem ok_told {f : Addr} {fd : FuncData} (D : Df K mg "_law_told" ["_law_some"] sTold f fd) (T : Txt K mg C) : FnOk P w K mg base CX0 1 f fd ["_law_some"] (spTold K C) := by
  refine D.fn.ok scTold (fun vs H Q E h => ?_) (fun cdv A outer s H vs Q E hr h => ?_)
  · obtain ⟨l, xs, ps, rfl, _⟩ := h
    rfl
  · obtain ⟨l, xs, ps, rfl, hq, hd, few, q⟩ := h
    have len : xs.length = ps.length := Paired.length hd
    have fin : ∀ (L : Addr), H L = none → ∀ (i : Nat) (p : Pt) (t : Addr) (Hi : Hp) (acc : List V), ps[i]? = some p → Same H Hi → Hi L = some (.lst acc) → Tups Hi acc (ps.take i) → Hi t = none →
        (upd Hi t (.tup (pVp p))) L = some (.lst acc) ∧ acc.length < sizeLine ∧ (Same H (upd (upd Hi t (.tup (pVp p))) L (.lst (acc ++ [.ref t]))) ∧
          ∃ acc', (upd (upd Hi t (.tup (pVp p))) L (.lst (acc ++ [.ref t]))) L = some (.lst acc') ∧ Tups (upd (upd Hi t (.tup (pVp p))) L (.lst (acc ++ [.ref t]))) acc' (ps.take (i + 1))) := by
      intro L nL i p t Hi acc hp sm hL ha nt
      have s1 : Same Hi (upd Hi t (.tup (pVp p))) := same_upd nt
      have hL1 := s1 _ _ hL
      have tk : ps.take (i + 1) = ps.take i ++ [p] := by
        rw [List.take_add_one, hp]
        rfl
      refine ⟨hL1, ?_, fun b o e => ?_, _, upd_same, ?_⟩
      · have z := ha.len
        rw [List.length_take] at z
        exact small1000 (by omega)
      · rw [upd_ne (ne_of_none e nL)]
        exact s1 _ _ (sm _ _ e)
      · rw [tk]
        refine Tups.step (H := upd Hi t (.tup (pVp p))) ((ha.same s1).app (.cons ⟨t, rfl, upd_same⟩ .nil)) fun b zs e => ?_
        rw [upd_ne (ne_of e hL1 (by intro z; cases z))]
        exact e
    rcases hq with hq | hq
    · refine ⟨_, pss_one (ps_ret (pe_lc (own := [("_law_d", 1)]) (g := gName 1) (tt := tYes) (te := tTup (tCons (tFld K (tVar 1) "year") (tCons (tFld K (tVar 1) "month") (tCons (tFld K (tVar 1) "day") tNil)))) (by rfl) scTold.nd (pi_list (pv 0)) (blkOk_by (own := [("_law_d", 1)]) (N := ["_law_some", "_law_d"]) (sc := defScope sTold) (by decide +kernel))
        (fun _ _ _ _ _ => pg_name (i := 1) scTold.nd rfl (.inl rfl)) (fun _ _ _ _ _ => pts_nil) (fun _ _ _ _ _ => pe_tup (pa_cons (pe_fld (pv 1) rfl) (pa_cons (pe_fld (pv 1) rfl) (pa_cons (pe_fld (pv 1) rfl) pa_nil)))))), ?_⟩
      refine ⟨_, rfl, l, rfl, ⟨_, hq⟩, fun L nL => ?_⟩
      refine lc_list (K := K) (a := l) (xs := xs) (fun i Hi => Same H Hi ∧ ∃ acc, Hi L = some (.lst acc) ∧ Tups Hi acc (ps.take i)) ⟨same_upd nL, [], upd_same, .nil⟩ (fun i Hi _ z => z.1.seq hq) ?_ ?_
      · rintro i x Hi hx ⟨sm, acc, hL, ha⟩
        obtain ⟨p, hp, a, rfl, dx, e⟩ := days_get hd hx
        refine ⟨rfl, ?_⟩
        unfold tYes
        refine iteT ?_
        refine ⟨_, rfl, a, C, dx, _, _, rfl, sm _ _ e, T.cl, T.nY, f_y _ _ _, _, rfl, a, C, dx, _, _, rfl, sm _ _ e, T.cl, T.nM, f_m _ _ _, _, rfl, a, C, dx, _, _, rfl, sm _ _ e, T.cl, T.nD, f_d _ _ _, (by show 3 ≤ sizeLine; decide), fun t nt => ?_⟩
        exact ⟨acc, fin L nL i p t Hi acc hp sm hL ha nt⟩
      · rintro He ⟨sm, acc, hL, ha⟩
        rw [len, List.take_length] at ha
        exact q _ _ sm (.lst (SqL.of hL) ha.dp)
    · refine ⟨_, pss_one (ps_ret (pe_lc (own := [("_law_d", 1)]) (g := gName 1) (tt := tYes) (te := tTup (tCons (tFld K (tVar 1) "year") (tCons (tFld K (tVar 1) "month") (tCons (tFld K (tVar 1) "day") tNil)))) (by rfl) scTold.nd (pi_tup (pv 0)) (blkOk_by (own := [("_law_d", 1)]) (N := ["_law_some", "_law_d"]) (sc := defScope sTold) (by decide +kernel))
        (fun _ _ _ _ _ => pg_name (i := 1) scTold.nd rfl (.inl rfl)) (fun _ _ _ _ _ => pts_nil) (fun _ _ _ _ _ => pe_tup (pa_cons (pe_fld (pv 1) rfl) (pa_cons (pe_fld (pv 1) rfl) (pa_cons (pe_fld (pv 1) rfl) pa_nil)))))), ?_⟩
      refine ⟨_, rfl, l, rfl, ⟨_, hq⟩, fun L nL => ?_⟩
      refine lc_tup (K := K) (a := l) (xs := xs) (fun i Hi => Same H Hi ∧ ∃ acc, Hi L = some (.lst acc) ∧ Tups Hi acc (ps.take i)) ⟨same_upd nL, [], upd_same, .nil⟩ (fun i Hi _ z => Same.seqT z.1 hq) ?_ ?_
      · rintro i x Hi hx ⟨sm, acc, hL, ha⟩
        obtain ⟨p, hp, a, rfl, dx, e⟩ := days_get hd hx
        refine ⟨rfl, ?_⟩
        unfold tYes
        refine iteT ?_
        refine ⟨_, rfl, a, C, dx, _, _, rfl, sm _ _ e, T.cl, T.nY, f_y _ _ _, _, rfl, a, C, dx, _, _, rfl, sm _ _ e, T.cl, T.nM, f_m _ _ _, _, rfl, a, C, dx, _, _, rfl, sm _ _ e, T.cl, T.nD, f_d _ _ _, (by show 3 ≤ sizeLine; decide), fun t nt => ?_⟩
        exact ⟨acc, fin L nL i p t Hi acc hp sm hL ha nt⟩
      · rintro He ⟨sm, acc, hL, ha⟩
        rw [len, List.take_length] at ha
        exact q _ _ sm (.lst (SqL.of hL) ha.dp)
end
end K4
namespace K4
open PySem PySem.Spec PyProof.Rows L2

theorem But.free {h l : Addr} {H H' : Hp} (b : But h H H') (ne : l ≠ h) (e : H' l = none) : H l = none := by
  cases q : H l with
  | none => rfl
  | some o =>
    rw [b l o ne q] at e
    cases e
/-- tuples stay -/
def TK (H H' : Hp) : Prop := ∀ b zs, H b = some (.tup zs) → H' b = some (.tup zs)
theorem TK.trans {H H1 H2 : Hp} (a : TK H H1) (b : TK H1 H2) : TK H H2 := fun c z e => b c z (a c z e)
theorem Same.tk {H H' : Hp} (s : Same H H') : TK H H' := fun b z e => s _ _ e
theorem Hand.tk {n : Int} {h : Addr} {H H' : Hp} (hh : Hand n H h) (s : But h H H') : TK H H' := by
  obtain ⟨xs, e⟩ := hh.at_
  exact but_tup e s
theorem tk_put {H : Hp} {l : Addr} {xs ys : List V} (e : H l = some (.lst xs)) : TK H (upd H l (.lst ys)) := fun b zs q => by
  rw [upd_ne (ne_of q e (by intro z; cases z))]
  exact q
theorem Hand.other {n : Int} {H : Hp} {a l : Addr} {o : HO} (h : Hand n H a) (ne : l ≠ a) : Hand n (upd H l o) a := by
  obtain ⟨g, m, c, e, r⟩ := h
  exact ⟨g, m, c, by rw [upd_ne ne.symm]; exact e, r⟩
def spDrawn : Sp := fun vs H Q _ => ∃ (h : Addr) (n : Int), vs = [.ref h] ∧ Hand n H h ∧ n + 2000 ≤ far ∧
  ∀ H' r ts ps, But h H H' → H r = none → H' r = some (.lst ts) → Tups H' ts ps → (∀ p ∈ ps, GoodP p) → ts.length ≤ 60 → Hand (n + 1000) H' h → Q (.ref r) H'

section
variable {P : Program} {w : World} {K : PySem.W.Frag} {mg : Str → Option Value} {base : Heap} {C : Addr}
theorem ok_drawn {f : Addr} {fd : FuncData} (D : Df K mg "_law_drawn" ["_law_hand_here"] sDrawn f fd) (T : Txt K mg C) (cT : Ca P w K mg base 1 "_law_take" ["_law_hand_here", "_law_many"] spTake)
    (cP : Ca P w K mg base 2 "_law_pick" ["_law_hand_here", "_law_some"] spPick) (cL : Ca P w K mg base 1 "_law_last" ["_law_y", "_law_m"] spLast) (cA : Ca P w K mg base 3 "_law_parts" ["_law_hand_here"] spParts) :
    FnOk P w K mg base CX0 4 f fd ["_law_hand_here"] spDrawn := by
  refine D.fn.ok scDrawn (fun vs H Q E h => ?_) (fun cdv A outer s H vs Q E hr h => ?_)
  · obtain ⟨h, n, rfl, _⟩ := h
    rfl
  · obtain ⟨h, n, rfl, hh, hn, q⟩ := h
    have fr : n + 2000 ≤ 1000000 := hn
    refine ⟨_, (C8.pss_cut (ps_set (i := 1) scDrawn.nd rfl (.inl rfl) (pe_ifExp (pt_cmpR op_eq (pe_ca cT hr (by decide) (by rfl) (pa_cons (pv 0) (pa_cons pe_int pa_nil))) pe_int (nomark _)) pe_int (pe_ca cT hr (by decide) (by rfl) (pa_cons (pv 0) (pa_cons pe_int pa_nil)))))
      (pss_cons (ps_par (i := 2) (j := 3) (by rfl) scDrawn.nd rfl rfl (by decide) rfl rfl (pa_cons (pe_lst pa_nil) (pa_cons (pe_op op_add pe_int (pe_ca cT hr (by decide) (by rfl) (pa_cons (pv 0) (pa_cons pe_int pa_nil)))) pa_nil)) (by rfl))
      (pss_cons (ps_for PassesOwn.never rfl (pi_range1 rfl T.range (pa_cons (pv 1) pa_nil)) (pg_name (i := 4) scDrawn.nd rfl (.inl rfl)) (pss_cons (ps_set (i := 5) scDrawn.nd rfl (.inl rfl) (pe_ca cA hr (by decide) (by rfl) (pa_cons (pv 0) pa_nil)))
      (pss_cons (ps_par (i := 6) (j := 7) (by rfl) scDrawn.nd rfl rfl (by decide) rfl rfl (pa_cons (pe_op op_add (pv 3) (pe_ca cT hr (by decide) (by rfl) (pa_cons (pv 0) (pa_cons pe_int pa_nil)))) (pa_cons (pe_ca cP hr (by decide) (by rfl) (pa_cons (pv 0) (pa_cons (pe_lst (pa_cons pe_int (pa_cons pe_int (pa_cons pe_int (pa_cons (pe_op op_add pe_int (pe_ca cT hr (by decide) (by rfl) (pa_cons (pv 0) (pa_cons pe_int pa_nil)))) pa_nil))))) pa_nil))) pa_nil)) (by rfl))
      (pss_cons (ps_set (i := 8) scDrawn.nd rfl (.inl rfl) (pe_lst (pa_cons (pe_tup (pa_cons (pv 6) (pa_cons pe_non (pa_cons pe_non pa_nil)))) (pa_cons (pe_tup (pa_cons (pv 6) (pa_cons (pv 7) (pa_cons pe_non pa_nil)))) (pa_cons (pe_tup (pa_cons (pv 6) (pa_cons (pv 7) (pa_cons (pe_ca cP hr (by decide) (by rfl) (pa_cons (pv 0) (pa_cons (pe_lst (pa_cons pe_int (pa_cons pe_int (pa_cons (pe_ca cL hr (by decide) (by rfl) (pa_cons (pv 6) (pa_cons (pv 7) pa_nil))) pa_nil)))) pa_nil))) pa_nil)))) pa_nil)))))
      (pss_one (ps_expr (pe_bm PySem.F.plainAttrs_list PySem.F.slot_list_append PySem.F.type_list_append mt_append (pv 2) (pa_cons (pe_ca cP hr (by decide) (by rfl) (pa_cons (pv 0) (pa_cons (pe_op op_cat (pv 8) (pe_lst (pa_cons (pv 5) (pa_cons (pe_tup (pa_cons (pv 6) (pa_cons pe_int (pa_cons pe_int pa_nil)))) (pa_cons (pe_tup (pa_cons (pv 6) (pa_cons pe_int (pa_cons pe_int pa_nil)))) pa_nil))))) pa_nil))) pa_nil))))))))
      (pss_one (ps_ret (pv 2)))))), ?_⟩
    -- how many
    refine ⟨fun σ' H' => ∃ many : Int, σ' = [some (.ref h), some (.int many), none, none, none, none, none, none, none] ∧ 0 ≤ many ∧ many ≤ 60 ∧ Hand (n + 2) H' h ∧ But h H H', ?_, ?_⟩
    · refine ⟨_, rfl, h, 8, n, rfl, by decide, by decide, hh, by show n ≤ 1000000; omega, fun a0 H0 a00 a01 h0 b0 => ?_⟩
      refine ⟨rfl, _, rfl, ite2 (fun e => ?_) (fun e => ?_)⟩
      · exact ⟨60, rfl, by decide, by decide, h0.mono (by omega), b0⟩
      · refine ⟨_, rfl, h, 13, n + 1, rfl, by decide, by decide, h0, by show n + 1 ≤ 1000000; omega, fun a1 H1 a10 a11 h1 b1 => ?_⟩
        exact ⟨a1, rfl, a10, by omega, h1.mono (by omega), b0.trans b1⟩
    rintro σ' H1 ⟨many, rfl, mn0, mn1, h1, bH1⟩
    -- found, base
    refine ⟨(by show 0 ≤ sizeLine; decide), fun f0 nf => ?_⟩
    refine ⟨_, rfl, h, 9990, n + 2, rfl, by decide, by decide, h1.same (same_upd nf), by show n + 2 ≤ 1000000; omega, fun b0 H2 b00 b01 h2 bH2 => ⟨1, b0, rfl, rfl, _, _, rfl, ?_⟩⟩
    have fh : f0 ≠ h := h1.fresh nf
    have nfH : H f0 = none := But.free bH1 fh nf
    have bH : But h H H2 := (bH1.trans (Same.but (same_upd nf) h)).trans bH2
    have ef0 : H2 f0 = some (.lst []) := bH2 _ _ fh upd_same
    refine ⟨_, rfl, many, rfl, by omega, by omega, for_range (lo := 0) (n := many.toNat) (fun i σ Hi => (∃ v4 v5 v6 v7 v8 : Option V, σ = [some (.ref h), some (.int many), some (.ref f0), some (.int (1 + b0)), v4, v5, v6, v7, v8]) ∧
      But h H Hi ∧ Hand (n + 3 + 14 * i) Hi h ∧ ∃ ts ps, Hi f0 = some (.lst ts) ∧ Tups Hi ts ps ∧ (∀ p ∈ ps, GoodP p) ∧ ts.length = i) ⟨⟨none, none, none, none, none, rfl⟩, bH, h2.mono (by omega), [], [], ef0, .nil, (fun p hp => by cases hp), rfl⟩ ?_ ?_⟩
    · rintro i σ Hi hi ⟨⟨v4, v5, v6, v7, v8, rfl⟩, bi, hi', ts, ps, ef, ht, hg, len⟩
      have i60 : i < 60 := by omega
      refine ⟨_, rfl, h, n + 3 + 14 * i, rfl, hi', by show n + 3 + 14 * (i : Int) + 20 ≤ 1000000; omega, fun t y0 m0 d0 Ha et g0 ha ba => ?_⟩
      -- y, m
      refine ⟨_, rfl, _, rfl, h, 3, n + 3 + 14 * i + 9, rfl, by decide, by decide, ha, by show n + 3 + 14 * (i : Int) + 9 ≤ 1000000; omega, fun a2 Hb a20 a21 hb bb => ⟨_, a2, rfl, rfl, ?_⟩⟩
      refine ⟨_, rfl, _, rfl, h, 12, n + 3 + 14 * i + 9 + 1, rfl, by decide, by decide, hb, by show n + 3 + 14 * (i : Int) + 9 + 1 ≤ 1000000; omega, fun a3 Hc a30 a31 hc bc => ⟨1, a3, rfl, rfl, (by show 4 ≤ sizeLine; decide), fun l3 nl3 => ?_⟩⟩
      refine ⟨h, l3, _, n + 3 + 14 * i + 9 + 1 + 1, rfl, upd_same, hc.fresh nl3, by simp, by show 4 < 1000; decide, hc.same (same_upd nl3), by show n + 3 + 14 * (i : Int) + 9 + 1 + 1 ≤ 1000000; omega, fun mv Hd mm hd bd => ?_⟩
      obtain ⟨m, rfl, g4, g5⟩ : ∃ m : Int, mv = .int m ∧ 1 ≤ m ∧ m ≤ 12 := by
        simp only [List.mem_cons, List.not_mem_nil, or_false] at mm
        rcases mm with e | e | e | e
        · exact ⟨_, e, by decide, by decide⟩
        · exact ⟨_, e, by decide, by decide⟩
        · exact ⟨_, e, by decide, by decide⟩
        · exact ⟨_, e, by omega, by omega⟩
      refine ⟨_, _, rfl, ?_⟩
      have g1 : 1 ≤ (1 + b0 + a2) := by omega
      have g2 : (1 + b0 + a2) ≤ 9999 := by omega
      -- near
      refine ⟨_, rfl, (by show 3 ≤ sizeLine; decide), fun u1 n1 => ?_⟩
      refine ⟨_, rfl, _, rfl, (by show 3 ≤ sizeLine; decide), fun u2 n2 => ?_⟩
      have k12 := (same_upd n1 (o := .tup (pV (1 + b0 + a2) none none))).trans (same_upd n2 (o := .tup (pV (1 + b0 + a2) (some m) none)))
      refine ⟨_, rfl, _, rfl, _, rfl, _, rfl, _, rfl, (1 + b0 + a2), m, rfl, fun He se => ⟨(by show 3 ≤ sizeLine; decide), fun l4 nl4 => ?_⟩⟩
      have he := (hd.same k12).same se
      have ld := lastDay_ge (1 + b0 + a2) m
      refine ⟨h, l4, _, n + 3 + 14 * i + 9 + 1 + 1 + 1, rfl, upd_same, he.fresh nl4, by simp, by show 3 < 1000; decide, he.same (same_upd nl4), by show n + 3 + 14 * (i : Int) + 9 + 1 + 1 + 1 ≤ 1000000; omega, fun dv Hf dm hf bf => ?_⟩
      obtain ⟨d, rfl, g7, g8⟩ : ∃ d : Int, dv = .int d ∧ 1 ≤ d ∧ d ≤ lastDay (1 + b0 + a2) m := by
        simp only [List.mem_cons, List.not_mem_nil, or_false] at dm
        rcases dm with e | e | e
        · exact ⟨_, e, by decide, by omega⟩
        · exact ⟨_, e, by decide, by omega⟩
        · exact ⟨_, e, by omega, by omega⟩
      refine ⟨(by show 3 ≤ sizeLine; decide), fun u3 n3 => ⟨(by show 3 ≤ sizeLine; decide), fun l5 nl5 => ?_⟩⟩
      -- what is added
      have bf0 : But h Hi Hf := ((((((ba.trans bb).trans bc).trans (Same.but (same_upd nl3) h)).trans bd).trans (Same.but k12 h)).trans (Same.but se h)).trans ((Same.but (same_upd nl4) h).trans bf)
      have s35 := (same_upd n3 (o := .tup (pV (1 + b0 + a2) (some m) (some d)))).trans (same_upd nl5 (o := .lst [.ref u1, .ref u2, .ref u3]))
      have bf5 := bf0.trans (Same.but s35 h)
      refine ⟨_, rfl, .inl ⟨rfl, _, SqL.of (bf5 _ _ fh ef)⟩, _, rfl, _, rfl, _, rfl, _, rfl, (by show 3 ≤ sizeLine; decide), fun u4 n4 => ?_⟩
      refine ⟨_, rfl, (by show 3 ≤ sizeLine; decide), fun u5 n5 => ⟨(by show 3 ≤ sizeLine; decide), fun l6 nl6 => ?_⟩⟩
      have s56 := ((same_upd n4 (o := .tup (pV (1 + b0 + a2) (some 1) (some 1)))).trans (same_upd n5 (o := .tup (pV (1 + b0 + a2) (some 12) (some 31))))).trans (same_upd nl6 (o := .lst [.ref t, .ref u4, .ref u5]))
      refine ⟨l5, l6, _, _, rfl, rfl, s56 _ _ upd_same, upd_same, (by show 6 ≤ sizeLine; decide), fun l7 nl7 => ?_⟩
      have s67 := s56.trans (same_upd nl7 (o := .lst ([.ref u1, .ref u2, .ref u3] ++ [.ref t, .ref u4, .ref u5])))
      have h7 := (hf.same s35).same s67
      refine ⟨h, l7, _, n + 3 + 14 * i + 9 + 1 + 1 + 1 + 1, rfl, upd_same, ((hf.same s35).same s56).fresh nl7, by simp, by show 6 < 1000; decide, h7, by show n + 3 + 14 * (i : Int) + 9 + 1 + 1 + 1 + 1 ≤ 1000000; omega, fun v H8 mv h8 b8 => ?_⟩
      have b78 : But h Hi H8 := (bf5.trans (Same.but s67 h)).trans b8
      have ef8 := b78 _ _ fh ef
      refine ⟨f0, ts, v, rfl, rfl, ef8, small1000 (by omega), ?_⟩
      -- where each tuple stands
      have tk8 := h7.tk b8
      have tkF : TK Hd Hf := (Same.tk (k12.trans se)).trans ((Same.tk (same_upd nl4)).trans ((he.same (same_upd nl4)).tk bf))
      have tk5 : TK Hf H8 := (Same.tk (s35.trans s67)).trans tk8
      have e1 : H8 u1 = some (.tup (pV (1 + b0 + a2) none none)) := tk5 _ _ (((Same.tk ((same_upd n2).trans se)).trans ((Same.tk (same_upd nl4)).trans ((he.same (same_upd nl4)).tk bf))) _ _ upd_same)
      have e2 : H8 u2 = some (.tup (pV (1 + b0 + a2) (some m) none)) := tk5 _ _ (((Same.tk se).trans ((Same.tk (same_upd nl4)).trans ((he.same (same_upd nl4)).tk bf))) _ _ upd_same)
      have e3 : H8 u3 = some (.tup (pV (1 + b0 + a2) (some m) (some d))) := tk8 _ _ (s67 _ _ ((same_upd nl5) _ _ upd_same))
      have et8 : H8 t = some (.tup (pV y0 m0 d0)) := tk5 _ _ (tkF _ _ (((hc.same (same_upd nl3)).tk bd) _ _ ((Same.tk (same_upd nl3)) _ _ ((hb.tk bc) _ _ ((ha.tk bb) _ _ et)))))
      have e4 : H8 u4 = some (.tup (pV (1 + b0 + a2) (some 1) (some 1))) := tk8 _ _ ((same_upd nl7) _ _ (((same_upd n5).trans (same_upd nl6)) _ _ upd_same))
      have e5 : H8 u5 = some (.tup (pV (1 + b0 + a2) (some 12) (some 31))) := tk8 _ _ ((same_upd nl7) _ _ ((same_upd nl6) _ _ upd_same))
      obtain ⟨p, gp, tp⟩ : ∃ p, GoodP p ∧ TupP H8 v p := by
        simp only [List.cons_append, List.nil_append, List.mem_cons, List.not_mem_nil, or_false] at mv
        rcases mv with e | e | e | e | e | e
        · exact ⟨((1 + b0 + a2), none, none), ⟨g1, g2, rfl⟩, u1, e, e1⟩
        · exact ⟨((1 + b0 + a2), some m, none), ⟨g1, g2, g4, g5, trivial⟩, u2, e, e2⟩
        · exact ⟨((1 + b0 + a2), some m, some d), ⟨g1, g2, g4, g5, g7, g8⟩, u3, e, e3⟩
        · exact ⟨(y0, m0, d0), g0, t, e, et8⟩
        · exact ⟨((1 + b0 + a2), some 1, some 1), ⟨g1, g2, by decide, by decide, by decide, by have := lastDay_ge (1 + b0 + a2) 1; show (1 : Int) ≤ lastDay (1 + b0 + a2) 1; omega⟩, u4, e, e4⟩
        · exact ⟨((1 + b0 + a2), some 12, some 31), ⟨g1, g2, by decide, by decide, by decide, by show (31 : Int) ≤ lastDay (1 + b0 + a2) 12; simp [lastDay]⟩, u5, e, e5⟩
      have ht8 : Tups H8 ts ps := ht.step fun b zs e => b78 _ _ (ne_of e (hi'.at_).choose_spec (by intro z; cases z)) e
      refine ⟨⟨_, _, _, _, _, rfl⟩, fun b z nb e => ?_, (h8.other fh).mono (by omega), ts ++ [v], ps ++ [p], upd_same, ?_, ?_, by rw [List.length_append, len]; rfl⟩
      · rw [upd_ne (ne_of_none e nfH)]
        exact b78 _ _ nb (bi _ _ nb e)
      · exact Tups.step (ht8.app (.cons tp .nil)) (tk_put ef8)
      · intro z hz
        rcases List.mem_append.mp hz with hz | hz
        · exact hg z hz
        · rw [List.mem_singleton.mp hz]
          exact gp
    · rintro σ Hi ⟨⟨v4, v5, v6, v7, v8, rfl⟩, bi, hi', ts, ps, ef, ht, hg, len⟩
      exact ⟨_, rfl, q _ f0 ts ps bi nfH ef ht hg (by omega) (hi'.mono (by omega))⟩
end
end K4
namespace K4
open PySem PySem.Spec PyProof.Rows L2

/-! ## calls by names alone -/
section
variable {X : Cx} {CX : CXT} {k : Nat} {f : Addr} {fd : FuncData} {ps ks : List Str} {sp : Sp} {E : XK} {x : Str} {p pos : Pos} {kws : List Keyword} {tk : TA} {g : List Value → List Value → List Value} {gV : List V → List V → List V}
theorem pe_callN0 (F : FnOk X.prog X.w X.K X.mg X.base CX k f fd ps sp) (room : Room k X.A) (gl : Gl X x) (mgf : X.mg x = some (.ref f)) (kp : PySem.W.keepIn X.K (.ref f) = true) (kb : KBn X.K fd ps 0 ks g gV) (px : Passes CX X E) (pk : PK X kws tk)
    (hall : (backToKw pos (keywordEach kws X.env)).all (·.1.isSome) = true := by rfl) (hks : (backToKw pos (keywordEach kws X.env)).filterMap (·.1) = ks := by rfl) (hdb : (x == ("__debug__" : Str)) = false := by decide)
    (hpl : ((backTo pos (starEach [] X.env)).any (·.1) || (backToKw pos (keywordEach kws X.env)).any (·.1.isNone)) = false := by rfl) : PE X (.Call (.Name x p) [] kws pos) (tCallN 0 ks.length sp gV E tNil tk) := by
  refine ⟨fun pins s σ H Q I h => wpAny_Call_Name_kw (ld_glob I gl mgf ?_ hdb)⟩
  refine PySem.W.callWith_KW0 (h₀ := X.base) I.ok.mod.kin kp hall (thn (pk.run pos pins s σ H _ I h) fun ws s2 z => ?_) hpl
  obtain ⟨zs, H2, I2, rz, l1, l2, q2⟩ := z
  refine ⟨I2.kIn, ?_⟩
  rw [hks]
  exact run_fnN (us := []) (vs := []) F room kb px I2 .nil rz l1 l2 q2
end

/-! ## lists of parts, shown -/
theorem text_le : ∀ ts : List Str, (listText ts).length ≤ piled ts + 2
  | [] => by decide +kernel
  | t :: ts => by
    have e : (textFrom 0 "[" (t :: ts)).length = 1 + t.length + piled ts := by
      show (textFrom 1 (("[" : Str) ++ ((if 0 > 0 then ", " else "" : String) : Str) ++ t) ts).length = _
      rw [textFrom_length_pos ts 1 _ (by decide), strLen_append, strLen_append]
      rfl
    unfold listText
    rw [strLen_append, e, piled_cons]
    show 1 + t.length + piled ts + 1 ≤ _
    omega
theorem showsL : ∀ (ps : List Pt), (∀ p ∈ ps, GoodP p) → PyData.showableAll (ps.map pDp) = true ∧ PyData.hasDictAll (ps.map pDp) = false ∧ PyData.depthAll (ps.map pDp) ≤ 3 ∧ piled (PyData.shownAll (ps.map pDp)) ≤ 32 * ps.length
  | [], _ => by simp [PyData.showableAll, PyData.hasDictAll, PyData.depthAll, PyData.shownAll, piled_nil]
  | p :: ps, h => by
    obtain ⟨h1, h2, h3, h4⟩ := showsL ps fun q hq => h q (List.mem_cons_of_mem _ hq)
    have g := good_tiny (h p List.mem_cons_self)
    have s : Shows (pDp p) 30 := shows3 g.1 g.2.1 g.2.2
    have d : (pDp p).depth ≤ 3 := pD_depth p.1 p.2.1 p.2.2
    refine ⟨?_, ?_, ?_, ?_⟩
    · simp only [List.map_cons, PyData.showableAll, s.sh, h1]
      rfl
    · simp only [List.map_cons, PyData.hasDictAll, s.nd, h2]
      rfl
    · simp only [List.map_cons, PyData.depthAll]
      omega
    · simp only [List.map_cons, PyData.shownAll, piled_cons, List.length_cons]
      have := s.sz
      omega
structure ShowsD (d : PyData) : Prop where
  sh : d.showable = true
  nd : d.hasDict = false
  dp : d.depth ≤ 50
  sz : d.shown.length ≤ sizeLine
theorem showsLD {ps : List Pt} (h : ∀ p ∈ ps, GoodP p) (few : ps.length ≤ 100) : ShowsD (LD ps) := by
  obtain ⟨h1, h2, h3, h4⟩ := showsL ps h
  refine ⟨?_, ?_, ?_, ?_⟩
  · simp only [LD, PyData.showable]
    exact h1
  · simp only [LD, PyData.hasDict]
    exact h2
  · simp only [LD, PyData.depth]
    omega
  · simp only [LD, PyData.shown]
    have z := text_le (PyData.shownAll (ps.map pDp))
    have s : (5000 : Nat) ≤ sizeLine := by decide
    omega
theorem Tups.rev {H : Hp} : ∀ {ts : List V} {ps : List Pt}, Tups H ts ps → Tups H ts.reverse ps.reverse
  | _, _, .nil => .nil
  | _, _, .cons r t => by
    rw [List.reverse_cons, List.reverse_cons]
    exact (Tups.rev t).app (.cons r .nil)
theorem Tups.mem {H : Hp} {ts : List V} {ps : List Pt} (h : Tups H ts ps) : ts.length = ps.length := h.len

/-- by_day, however it is called -/
structure By (P : Program) (w : World) (K : PySem.W.Frag) (mg : Str → Option Value) (base : Heap) (C f : Addr) (fd : FuncData) : Prop where
  ok : FnOk P w K mg base CX0 10 f fd ["days", "down"] (spByDay K C)
  mgf : mg "by_day" = some (.ref f)
  kp : PySem.W.keepIn K (.ref f) = true
  b1 : ∃ ds, Vals [.bl false] ds ∧ Binds K fd ["days", "down"] ds
  b2 : Binds K fd ["days", "down"] []
  k0 : KBn K fd ["days", "down"] 0 ["days", "down"] (fun _ ws => ws) (fun _ zs => zs)
  k1 : KBn K fd ["days", "down"] 1 ["down"] (fun us ws => us ++ ws) (fun vs zs => vs ++ zs)
theorem by_mk {P : Program} {w : World} {K : PySem.W.Frag} {mg : Str → Option Value} {base : Heap} {C f : Addr} {fd : FuncData} (F : FunD K "by_day" "by_day" (defArgs sByDay) (defBody sByDay) (defScope sByDay) [.bl false] [] f fd)
    (ok : FnOk P w K mg base CX0 10 f fd ["days", "down"] (spByDay K C)) (mgf : mg "by_day" = some (.ref f)) : By P w K mg base C f fd := by
  refine ⟨ok, mgf, F.kp, ?_, ?_, ?_, ?_⟩
  · exact F.binds1 (ps := ["days", "down"]) 1 0 (by simp) rfl fun T kV doc pm an cdv ct us its h1 h2 => by
      match us, its, h1, h2 with
      | [_], [_], _, _ => exact ⟨_, rfl, rfl⟩
  · obtain ⟨ds, r, b⟩ := F.binds1 (ps := ["days", "down"]) 2 1 (by simp) rfl fun T kV doc pm an cdv ct us its h1 h2 => by
      match us, its, h1, h2 with
      | [_, _], [_], _, _ => exact ⟨_, rfl, rfl⟩
    cases r
    exact b
  · obtain ⟨its, z⟩ := F.kbindsD (ps := ["days", "down"]) 0 ["days", "down"] (fun _ _ ws => ws) (by simp) (fun _ _ r => r) fun T kV doc pm an cdv ct us its ws h1 h2 h3 => by
      match us, its, ws, h1, h2, h3 with
      | [], [_], [_, _], _, _, _ => exact ⟨_, rfl, rfl⟩
    exact z
  · obtain ⟨its, z⟩ := F.kbindsD (ps := ["days", "down"]) 1 ["down"] (fun us _ ws => us ++ ws) (by simp) (fun r _ t => Vals.append r t) fun T kV doc pm an cdv ct us its ws h1 h2 h3 => by
      match us, its, ws, h1, h2, h3 with
      | [_], [_], [_], _, _, _ => exact ⟨_, rfl, rfl⟩
    exact z
/-- what stands ready when by_day is asked -/
structure Ctx (K : PySem.W.Frag) (C : Addr) (H : Hp) (l o dr : Addr) (xs ots dts : List V) (ps os : List Pt) : Prop where
  hl : SqL K H l xs ∨ SqT K H l xs
  days : Days C H xs ps
  good : ∀ p ∈ ps, GoodP p
  few : ps.length ≤ 60
  ho : H o = some (.lst ots)
  ht : Tups H ots os
  up : Up os
  pm : os.Perm ps
  hd : H dr = some (.lst dts)
  hdt : Tups H dts ps
theorem Ctx.same {K : PySem.W.Frag} {C : Addr} {H H' : Hp} {l o dr : Addr} {xs ots dts : List V} {ps os : List Pt} (c : Ctx K C H l o dr xs ots dts ps os) (s : Same H H') : Ctx K C H' l o dr xs ots dts ps os :=
  ⟨c.hl.imp (fun z => s.seq z) (fun z => Same.seqT s z), c.days.same s, c.good, c.few, s _ _ c.ho, c.ht.same s, c.up, c.pm, s _ _ c.hd, c.hdt.same s⟩
theorem Ctx.goodO {K : PySem.W.Frag} {C : Addr} {H : Hp} {l o dr : Addr} {xs ots dts : List V} {ps os : List Pt} (c : Ctx K C H l o dr xs ots dts ps os) : ∀ p ∈ os, GoodP p := fun p hp => c.good p (c.pm.mem_iff.mp hp)
theorem Ctx.is {K : PySem.W.Frag} {C : Addr} {H : Hp} {l o dr : Addr} {xs ots dts : List V} {ps os qs : List Pt} (c : Ctx K C H l o dr xs ots dts ps os) (pm : qs.Perm ps) (up : Up qs) : qs = os :=
  (up_unique c.goodO c.up up (c.pm.trans pm.symm)).symm
end K4
namespace K4
open PySem PySem.Spec PyProof.Rows L2
def spRight : Sp := fun vs H Q _ => ∃ h : Addr, vs = [.ref h] ∧ Hand 0 H h ∧ ∀ H', But h H H' → Q (.bl true) H'
theorem neSame {A B : Prop} {d e : PyData} (q : d = e) (h : B) : if (!decide (V.str d.shown = V.str e.shown)) = true then A else B := by
  rw [q, decide_eq_true rfl]
  exact iteF h
section
variable {P : Program} {w : World} {K : PySem.W.Frag} {mg : Str → Option Value} {base : Heap} {C : Addr}
theorem ok_right {f fB : Addr} {fd fdB : FuncData} (D : Df K mg "_law_right" ["_law_hand_here"] sRight f fd) (T : Txt K mg C) (cT : Ca P w K mg base 1 "_law_take" ["_law_hand_here", "_law_many"] spTake)
    (cW : Ca P w K mg base 4 "_law_drawn" ["_law_hand_here"] spDrawn) (cU : Ca P w K mg base 3 "_law_put" ["_law_parts_here", "_law_order"] spPut) (cD : Ca P w K mg base 1 "_law_told" ["_law_some"] (spTold K C))
    (mD : Ma P w K mg base 4 "Day" C ["self", "year", "month", "day"] (spInit C)) (B : By P w K mg base C fB fdB) : Gn P w K mg base 11 f fd ["_law_hand_here"] spRight := by
  obtain ⟨ds1, rd1, bd1⟩ := B.b1
  refine gn_body D.fn scRight (fun vs H Q E h => ?_) (fun cdv A outer s H vs Q E hg hr h => ?_)
  · obtain ⟨h, rfl, _⟩ := h
    rfl
  · obtain ⟨h, rfl, hh, q⟩ := h
    refine ⟨_, (pss_cons (ps_par (i := 1) (j := 2) (by rfl) scRight.nd rfl rfl (by decide) rfl rfl (pa_cons (pe_ca cW hr (by decide) (by rfl) (pa_cons (pv 0) pa_nil)) (pa_cons (pe_lst pa_nil) pa_nil)) (by rfl))
      (pss_cons (ps_for PassesOwn.never rfl (pi_list (pv 1)) (pg_name (i := 3) scRight.nd rfl (.inl rfl)) (pss_one (ps_expr (pe_ca cU hr (by decide) (by rfl) (pa_cons (pv 3) (pa_cons (pv 2) pa_nil))))))
      (pss_cons (ps_setLc (i := 4) (own := [("_law_y", 7), ("_law_m", 8), ("_law_d", 9)]) (g := gTup K 3 (gCons (gName 7) (gCons (gName 8) (gCons (gName 9) gNil)))) (tt := tYes) (te := tMake C (spInit C) [] E0 (tCons (tVar 7) (tCons (tVar 8) (tCons (tVar 9) tNil)))) (by rfl) scRight.nd rfl rfl
        (sw_true rfl rfl rfl (by decide +kernel)) (pi_list (pv 1)) (blkOk_by (own := [("_law_y", 7), ("_law_m", 8), ("_law_d", 9)]) (N := ["_law_hand_here", "_law_drawn_here", "_law_order", "_law_parts_here", "_law_some", "_law_handed", "_law_found", "_law_y", "_law_m", "_law_d"]) (sc := defScope sRight) (by decide +kernel))
        (fun _ _ _ _ _ => pg_tup (by rfl) (pgs_cons (pg_name (i := 7) scRight.nd rfl (.inl rfl)) (pgs_cons (pg_name (i := 8) scRight.nd rfl (.inl rfl)) (pgs_cons (pg_name (i := 9) scRight.nd rfl (.inl rfl)) pgs_nil)))) (fun _ _ _ _ _ => pts_nil)
        (fun _ _ _ _ _ => pe_ma mD hr (by decide) (by rfl) (pa_cons (pv 7) (pa_cons (pv 8) (pa_cons (pv 9) pa_nil)))))
      (C8.pss_cut (ps_set (i := 5) scRight.nd rfl (.inl rfl) (pe_ifExp (pt_cmpR op_eq (pe_ca cT hr (by decide) (by rfl) (pa_cons (pv 0) (pa_cons pe_int pa_nil))) pe_int (nomark _)) (pv 4) (pe_callTy call_tuple_of (by rfl) T.tuple (by decide +kernel) (pa_cons (pv 4) pa_nil))))
      (pss_cons (ps_for PassesOwn.never rfl (pi_tup (pe_tup (pa_cons (pe_call B.ok hr (by rfl) B.mgf B.kp bd1 rd1 pass0 (pa_cons (pv 5) pa_nil)) (pa_cons (pe_call B.ok hr (by rfl) B.mgf B.kp B.b2 .nil pass0 (pa_cons (pv 5) (pa_cons pe_bl pa_nil))) (pa_cons (pe_callN0 B.ok hr (by rfl) B.mgf B.kp B.k0 pass0 (pk_cons (pv 5) (pk_cons pe_bl pk_nil))) pa_nil))))) (pg_name (i := 6) scRight.nd rfl (.inl rfl)) (pss_one (ps_if (PW.pt (pw_or (pt_not (pt_val (pe_callB call_isi (by rfl) T.isi (by decide +kernel) (pa_cons (pv 6) (pa_cons (pe_bltn (v := .ty "list") (by rfl) T.list (by decide +kernel) rfl) pa_nil))))) (pw_or1 (pt_cmpR op_ne (pe_callB (cr_reprD hg hr) (by rfl) T.repr (by decide +kernel) (pa_cons (pe_ca cD hr (by decide) (by rfl) (pa_cons (pv 6) pa_nil)) pa_nil)) (pe_callB (cr_reprD hg hr) (by rfl) T.repr (by decide +kernel) (pa_cons (pv 2) pa_nil)) (nomark _))))) (pss_one (ps_ret pe_bl)) pss_nil)))
      (pss_cons (ps_for PassesOwn.never rfl (pi_tup (pe_tup (pa_cons (pe_call B.ok hr (by rfl) B.mgf B.kp B.b2 .nil pass0 (pa_cons (pv 5) (pa_cons pe_bl pa_nil))) (pa_cons (pe_callN B.ok hr (by rfl) B.mgf B.kp B.k1 pass0 (pa_cons (pv 5) pa_nil) (pk_cons pe_bl pk_nil)) pa_nil)))) (pg_name (i := 6) scRight.nd rfl (.inl rfl)) (pss_one (ps_if (PW.pt (pw_or (pt_not (pt_val (pe_callB call_isi (by rfl) T.isi (by decide +kernel) (pa_cons (pv 6) (pa_cons (pe_bltn (v := .ty "list") (by rfl) T.list (by decide +kernel) rfl) pa_nil))))) (pw_or1 (pt_cmpR op_ne (pe_callB (cr_reprD hg hr) (by rfl) T.repr (by decide +kernel) (pa_cons (pe_ca cD hr (by decide) (by rfl) (pa_cons (pv 6) pa_nil)) pa_nil)) (pe_callB (cr_reprD hg hr) (by rfl) T.repr (by decide +kernel) (pa_cons (pe_revL (pv 2)) pa_nil)) (nomark _))))) (pss_one (ps_ret pe_bl)) pss_nil)))
      (pss_cons (ps_set (i := 6) scRight.nd rfl (.inl rfl) (pe_call B.ok hr (by rfl) B.mgf B.kp bd1 rd1 pass0 (pa_cons (pv 5) pa_nil)))
      (pss_cons (ps_expr (pe_bm0 PySem.F.plainAttrs_list PySem.F.slot_list_clear PySem.F.type_list_clear mt_clear (pv 6)))
      (pss_one (ps_ret (pe_cmpR op_eq (pe_callB (cr_reprD hg hr) (by rfl) T.repr (by decide +kernel) (pa_cons (pe_ca cD hr (by decide) (by rfl) (pa_cons (pv 5) pa_nil)) pa_nil)) (pe_callB (cr_reprD hg hr) (by rfl) T.repr (by decide +kernel) (pa_cons (pv 1) pa_nil)) (nomark _)))))))))))), ?_⟩
    -- the parts drawn
    refine ⟨_, rfl, h, 0, rfl, hh, by decide, fun H1 dr dts ps b1 ndr edr tdt hgd few hH1 => ?_⟩
    refine ⟨(by show 0 ≤ sizeLine; decide), fun o no => ⟨_, _, rfl, ?_⟩⟩
    have drh : dr ≠ h := by
      obtain ⟨zs, ez⟩ := hh.at_
      exact (ne_of_none ez ndr).symm
    have oh : o ≠ h := hH1.fresh no
    have odr : dr ≠ o := ne_of_none edr no
    have noH : H o = none := But.free b1 oh no
    have plen : dts.length = ps.length := tdt.len
    -- put in order
    refine ⟨_, rfl, dr, rfl, ⟨_, SqL.of ((same_upd no) _ _ edr)⟩, for_list (K := K) (a := dr) (xs := dts) (fun i σ Hi => (∃ v3 : Option V, σ = [some (.ref h), some (.ref dr), some (.ref o), v3, none, none, none, none, none, none]) ∧ But h H Hi ∧ Hand 1000 Hi h ∧ Hi dr = some (.lst dts) ∧ Tups Hi dts ps ∧
      ∃ ots os, Hi o = some (.lst ots) ∧ Tups Hi ots os ∧ Up os ∧ os.Perm (ps.take i)) ⟨⟨none, rfl⟩, b1.trans (Same.but (same_upd no) h), hH1.same (same_upd no), (same_upd no) _ _ edr, tdt.same (same_upd no), [], [], upd_same, .nil, List.Pairwise.nil, by simp⟩
      (fun i σ Hi _ z => SqL.of z.2.2.2.1) ?_ ?_⟩
    · rintro i x σ Hi hx ⟨⟨v3, rfl⟩, bi, hi, edi, tdi, ots, os, eo, to, up, pm⟩
      obtain ⟨p, hp, t, rfl, et⟩ := tdi.get hx
      have gp := hgd p (List.mem_of_getElem? hp)
      have olen : ots.length ≤ 60 := by
        have z := pm.length_eq
        rw [List.length_take] at z
        have := to.len
        omega
      refine ⟨_, rfl, _, rfl, t, o, p, ots, os, rfl, et, gp, eo, to, fun z hz => hgd z (List.mem_of_mem_take (pm.mem_iff.mp hz)), by omega, fun H' ots' bo eo' to' => ?_⟩
      obtain ⟨zs, ez⟩ := hi.at_
      have ho' : H' h = some (.lst zs) := bo _ _ oh.symm ez
      refine ⟨⟨_, rfl⟩, fun b z nb e => bo _ _ (ne_of_none e noH) (bi _ _ nb e), ?_, bo _ _ odr edi, tdi.step (but_tup eo bo), ots', put p os, eo', to', put_up p os up, ?_⟩
      · obtain ⟨g, m, c, e, r⟩ := hi
        exact ⟨g, m, c, bo _ _ oh.symm e, r⟩
      · refine (put_perm p os).trans ?_
        rw [List.take_add_one, hp]
        refine (List.Perm.cons p pm).trans ?_
        exact (List.perm_append_comm (l₁ := [p]) (l₂ := ps.take i))
    · rintro σ H2 ⟨⟨v3, rfl⟩, b2, hH2, ed2, td2, ots, os, eo2, to2, up, pm⟩
      rw [plen, List.take_length] at pm
      -- the days
      refine ⟨_, rfl, dr, rfl, ⟨_, SqL.of ed2⟩, fun L nL => ?_⟩
      refine lc_list (K := K) (a := dr) (xs := dts) (fun i Hi => Same H2 Hi ∧ ∃ acc, Hi L = some (.lst acc) ∧ Days C Hi acc (ps.take i)) ⟨same_upd nL, [], upd_same, .nil⟩ (fun i Hi _ z => z.1.seq (SqL.of ed2)) ?_ ?_
      · rintro i x Hi hx ⟨sm, acc, hL, ha⟩
        obtain ⟨p, hp, t, rfl, et⟩ := td2.get hx
        have gp := hgd p (List.mem_of_getElem? hp)
        refine ⟨t, _, rfl, SqT.of (sm _ _ et), rfl, _, _, rfl, _, _, rfl, _, _, rfl, rfl, rfl, ?_⟩
        unfold tYes
        refine iteT ?_
        refine ⟨_, rfl, _, rfl, _, rfl, fun y e n1 n2 n3 => ?_⟩
        refine ⟨y, e, p.1, p.2.1, p.2.2, rfl, gp, upd_same, fun H' k dd => ⟨rfl, ?_⟩⟩
        have s' : Same Hi H' := made n1 n2 k
        have hL' := s' _ _ hL
        have alen : acc.length ≤ 60 := by
          have z : acc.length = (ps.take i).length := Paired.length ha
          rw [List.length_take] at z
          omega
        refine ⟨acc, hL', small1000 (by omega), fun b z e => ?_, _, upd_same, ?_⟩
        · rw [upd_ne (ne_of_none e nL)]
          exact s' _ _ (sm _ _ e)
        · rw [List.take_add_one, hp]
          have keepD : ∀ v z, DayP C H' v z → DayP C (upd H' L (.lst (acc ++ [.ref y]))) v z := fun v z q => by
            obtain ⟨a, e, dx, eq⟩ := q
            refine ⟨a, e, dx, ?_⟩
            rw [upd_ne (ne_of eq hL' (by intro z; cases z))]
            exact eq
          exact Paired.mapP (Paired.snoc (ha.same s') ⟨y, rfl, dd⟩) keepD
      · rintro H3 ⟨s3, xs, eL, dxs⟩
        rw [plen, List.take_length] at dxs
        have b3 : But h H H3 := b2.trans (Same.but s3 h)
        -- handed
        refine ⟨fun σ' H' => ∃ (l : Addr) (v3 : Option V), σ' = [some (.ref h), some (.ref dr), some (.ref o), v3, some (.ref L), some (.ref l), none, none, none, none] ∧ But h H H' ∧ Ctx K C H' l o dr xs ots dts ps os, ?_, ?_⟩
        · refine ⟨_, rfl, h, 2, 1000, rfl, by decide, by decide, hH2.same s3, by decide, fun a0 H4 a00 a01 h4 b4 => ?_⟩
          obtain ⟨zs, ez⟩ := (hH2.same s3).at_
          have Lh : L ≠ h := hH2.fresh nL
          have eL4 := b4 _ _ Lh eL
          have d4 : Days C H4 xs ps := Paired.mapP dxs fun v z q => by
            obtain ⟨a, e, dx, eq⟩ := q
            exact ⟨a, e, dx, b4 _ _ (ne_of eq ez (by intro z; cases z)) eq⟩
          have tk4 : TK H3 H4 := but_tup ez b4
          have c4 : Ctx K C H4 L o dr xs ots dts ps os := ⟨.inl (SqL.of eL4), d4, hgd, by omega, b4 _ _ oh (s3 _ _ eo2), (to2.same s3).step tk4, up, pm, b4 _ _ drh (s3 _ _ ed2), (td2.same s3).step tk4⟩
          refine ⟨rfl, _, rfl, ite2 (fun e => ?_) (fun e => ?_)⟩
          · exact ⟨_, rfl, L, _, rfl, b3.trans b4, c4⟩
          · refine ⟨_, rfl, L, xs, rfl, .inl ⟨SqL.of eL4, fun l nl => ?_⟩⟩
            have s5 : Same H4 (upd H4 l (.tup xs)) := same_upd nl
            have c5 := c4.same s5
            exact ⟨l, _, rfl, (b3.trans b4).trans (Same.but s5 h), ⟨.inr (SqT.of upd_same), c5.days, c5.good, c5.few, c5.ho, c5.ht, c5.up, c5.pm, c5.hd, c5.hdt⟩⟩
        rintro σ' H5 ⟨l, v3', rfl, b5, c5⟩
        have shO := showsLD c5.goodO (by have := c5.pm.length_eq; have := c5.few; omega)
        have shR : ShowsD (LD os.reverse) := showsLD (fun p hp => c5.goodO p (List.mem_reverse.mp hp)) (by rw [List.length_reverse]; have := c5.pm.length_eq; have := c5.few; omega)
        -- by_day, three ways
        refine ⟨_, rfl, l, xs, ps, false, rfl, c5.hl, c5.days, c5.good, fun H6 r1 ys1 qs1 s6 nr1 e1 d1' p1 u1 => ?_⟩
        have c6 := c5.same s6
        refine ⟨_, rfl, l, xs, ps, false, rfl, c6.hl, c6.days, c6.good, fun H7 r2 ys2 qs2 s7 nr2 e2 d2' p2 u2 => ?_⟩
        have c7 := c6.same s7
        refine ⟨_, rfl, rfl, rfl, l, xs, ps, false, rfl, c7.hl, c7.days, c7.good, fun H8 r3 ys3 qs3 s8 nr3 e3 d3' p3 u3 => ⟨(by show 3 ≤ sizeLine; decide), fun tt ntt => ?_⟩⟩
        have c8 := c7.same s8
        have s58 : Same H5 H8 := (s6.trans s7).trans s8
        have s89 := same_upd ntt (o := .tup [.ref r1, .ref r2, .ref r3])
        have found : ∀ v ∈ [V.ref r1, .ref r2, .ref r3], ∃ r ys, v = .ref r ∧ (upd H8 tt (.tup [.ref r1, .ref r2, .ref r3])) r = some (.lst ys) ∧ Days C (upd H8 tt (.tup [.ref r1, .ref r2, .ref r3])) ys os := fun v hv => by
          simp only [List.mem_cons, List.not_mem_nil, or_false] at hv
          rcases hv with e | e | e
          · refine ⟨r1, ys1, e, s89 _ _ (s8 _ _ (s7 _ _ e1)), ?_⟩
            rw [← c5.is p1 u1]
            exact ((d1'.same s7).same s8).same s89
          · refine ⟨r2, ys2, e, s89 _ _ (s8 _ _ e2), ?_⟩
            rw [← c5.is p2 u2]
            exact (d2'.same s8).same s89
          · refine ⟨r3, ys3, e, s89 _ _ e3, ?_⟩
            rw [← c5.is p3 u3]
            exact d3'.same s89
        have c9 := c8.same s89
        have b9 := (b5.trans (Same.but s58 h)).trans (Same.but s89 h)
        refine ⟨tt, rfl, ⟨_, SqT.of upd_same⟩, for_tup (K := K) (a := tt) (xs := [.ref r1, .ref r2, .ref r3]) (fun i σ Hi => (∃ v6 : Option V, σ = [some (.ref h), some (.ref dr), some (.ref o), v3', some (.ref L), some (.ref l), v6, none, none, none]) ∧ Same (upd H8 tt (.tup [.ref r1, .ref r2, .ref r3])) Hi)
          ⟨⟨none, rfl⟩, Same.refl _⟩ (fun i σ Hi _ z => Same.seqT z.2 (SqT.of upd_same)) ?_ ?_⟩
        · rintro i x σ Hi hx ⟨⟨v6, rfl⟩, si⟩
          obtain ⟨r, ys, rfl, er, dr'⟩ := found x (List.mem_of_getElem? hx)
          refine ⟨_, rfl, _, _, _, _, true, rfl, .ty _, .base (.lst (si _ _ er)), kit_ty (by decide +kernel), true, rfl, iteF ?_⟩
          have yl : ys.length ≤ 100 := by
            have z : ys.length = os.length := Paired.length dr'
            have := c5.pm.length_eq
            have := c5.few
            omega
          refine ⟨_, rfl, r, ys, os, rfl, .inl (SqL.of (si _ _ er)), dr'.same si, yl, fun Hj rj sj dj => ?_⟩
          refine ⟨rj, LD os, rfl, dj, shO.sh, shO.nd, shO.dp, shO.sz, ?_⟩
          have cj := (c9.same si).same sj
          refine ⟨_, rfl, o, LD os, rfl, .lst (SqL.of cj.ho) cj.ht.dp, shO.sh, shO.nd, shO.dp, shO.sz, rfl, _, rfl, neSame rfl ?_⟩
          exact ⟨⟨_, rfl⟩, si.trans sj⟩
        rintro σ Hx ⟨⟨v6, rfl⟩, sx⟩
        have cx := c9.same sx
        have bx := b9.trans (Same.but sx h)
        -- turned about, two ways
        refine ⟨_, rfl, l, xs, ps, true, rfl, cx.hl, cx.days, cx.good, fun HA r4 ysA qsA sA nrA eA dA pA uA => ?_⟩
        have cA := cx.same sA
        refine ⟨_, rfl, rfl, rfl, l, xs, ps, true, rfl, cA.hl, cA.days, cA.good, fun HB r5 ysB qsB sB nrB eB dB pB uB => ⟨(by show 2 ≤ sizeLine; decide), fun ts nts => ?_⟩⟩
        have sC := same_upd nts (o := .tup [.ref r4, .ref r5])
        have cC := (cA.same sB).same sC
        have bC := ((bx.trans (Same.but sA h)).trans (Same.but sB h)).trans (Same.but sC h)
        rw [if_pos rfl] at uA uB
        have qA : qsA = os.reverse := by
          rw [← cx.is ((List.reverse_perm _).trans pA) uA, List.reverse_reverse]
        have qB : qsB = os.reverse := by
          rw [← cx.is ((List.reverse_perm _).trans pB) uB, List.reverse_reverse]
        have foundR : ∀ v ∈ [V.ref r4, .ref r5], ∃ r ys, v = .ref r ∧ (upd HB ts (.tup [.ref r4, .ref r5])) r = some (.lst ys) ∧ Days C (upd HB ts (.tup [.ref r4, .ref r5])) ys os.reverse := fun v hv => by
          simp only [List.mem_cons, List.not_mem_nil, or_false] at hv
          rcases hv with e | e
          · refine ⟨r4, ysA, e, sC _ _ (sB _ _ eA), ?_⟩
            rw [← qA]
            exact (dA.same sB).same sC
          · refine ⟨r5, ysB, e, sC _ _ eB, ?_⟩
            rw [← qB]
            exact dB.same sC
        refine ⟨ts, rfl, ⟨_, SqT.of upd_same⟩, for_tup (K := K) (a := ts) (xs := [.ref r4, .ref r5]) (fun i σ Hi => (∃ v6 : Option V, σ = [some (.ref h), some (.ref dr), some (.ref o), v3', some (.ref L), some (.ref l), v6, none, none, none]) ∧ Same (upd HB ts (.tup [.ref r4, .ref r5])) Hi)
          ⟨⟨_, rfl⟩, Same.refl _⟩ (fun i σ Hi _ z => Same.seqT z.2 (SqT.of upd_same)) ?_ ?_⟩
        · rintro i x σ Hi hx ⟨⟨v6', rfl⟩, si⟩
          obtain ⟨r, ys, rfl, er, dr'⟩ := foundR x (List.mem_of_getElem? hx)
          refine ⟨_, rfl, _, _, _, _, true, rfl, .ty _, .base (.lst (si _ _ er)), kit_ty (by decide +kernel), true, rfl, iteF ?_⟩
          have yl : ys.length ≤ 100 := by
            have z : ys.length = os.reverse.length := Paired.length dr'
            rw [List.length_reverse] at z
            have := c5.pm.length_eq
            have := c5.few
            omega
          refine ⟨_, rfl, r, ys, os.reverse, rfl, .inl (SqL.of (si _ _ er)), dr'.same si, yl, fun Hj rj sj dj => ?_⟩
          refine ⟨rj, LD os.reverse, rfl, dj, shR.sh, shR.nd, shR.dp, shR.sz, ?_⟩
          have cj := (cC.same si).same sj
          refine ⟨_, rfl, o, _, rfl, SqL.of cj.ho, fun rv nrv => ?_⟩
          have sR := same_upd nrv (o := .lst ots.reverse)
          refine ⟨rv, LD os.reverse, rfl, .lst (SqL.of upd_same) (cj.ht.rev.same sR).dp, shR.sh, shR.nd, shR.dp, shR.sz, rfl, _, rfl, neSame rfl ?_⟩
          exact ⟨⟨_, rfl⟩, (si.trans sj).trans sR⟩
        rintro σ Hy ⟨⟨v6', rfl⟩, sy⟩
        have cy := cC.same sy
        have bY := bC.trans (Same.but sy h)
        -- once more, and thrown away
        refine ⟨_, rfl, l, xs, ps, false, rfl, cy.hl, cy.days, cy.good, fun Hz rz ysz qsz sz nrz ez dz pz uz => ?_⟩
        have cz := cy.same sz
        refine ⟨_, rfl, .inl ⟨rfl, _, SqL.of ez⟩, rz, ysz, rfl, rfl, ez, ?_⟩
        have keep : ∀ b z, Hy b = some z → (upd Hz rz (.lst [])) b = some z := fun b z e => by
          rw [upd_ne (ne_of_none e nrz)]
          exact sz _ _ e
        have cw := cy.same keep
        have shP := showsLD cw.good (by have := cw.few; omega)
        have xl : xs.length ≤ 100 := by
          have z : xs.length = ps.length := Paired.length cw.days
          have := cw.few
          omega
        refine ⟨_, rfl, l, xs, ps, rfl, cw.hl, cw.days, xl, fun Hj rj sj dj => ?_⟩
        refine ⟨rj, LD ps, rfl, dj, shP.sh, shP.nd, shP.dp, shP.sz, ?_⟩
        have cj := cw.same sj
        refine ⟨_, rfl, dr, LD ps, rfl, .lst (SqL.of cj.hd) cj.hdt.dp, shP.sh, shP.nd, shP.dp, shP.sz, rfl, ?_⟩
        show Q (V.bl (decide (V.str (LD ps).shown = V.str (LD ps).shown))) _
        rw [decide_eq_true rfl]
        exact q _ ((bY.trans (Same.but keep h)).trans (Same.but sj h))
end
end K4
namespace K4
open PySem PySem.Spec PyProof.Rows L2
section
variable {P : Program} {w : World} {K : PySem.W.Frag} {mg : Str → Option Value} {base : Heap} {C : Addr}

def spLaw (K : PySem.W.Frag) : Sp := fun vs H Q _ => ∃ (a : Addr) (ns : List Int), vs = [.ref a] ∧ SqL K H a (ns.map V.int) ∧ ns.length ≤ 63 ∧ ∀ H', Q (.bl true) H'
theorem ok_law {f fR : Addr} {fd fdR : FuncData} (D : Df K mg "law" ["_law_script"] sLaw f fd) (T : Txt K mg C) (cH : Ca P w K mg base 1 "_law_hand" ["_law_script", "_law_k"] (spHand K))
    (DR : Df K mg "_law_right" ["_law_hand_here"] sRight fR fdR) (GR : Gn P w K mg base 11 fR fdR ["_law_hand_here"] spRight) : Gn P w K mg base 12 f fd ["_law_script"] (spLaw K) := by
  refine gn_body D.fn scLaw (fun vs H Q E h => ?_) (fun cdv A outer s H vs Q E hg hr h => ?_)
  · obtain ⟨a, ns, rfl, _⟩ := h
    rfl
  · obtain ⟨a, ns, rfl, hS, hlen, q⟩ := h
    refine ⟨_, pss_one (ps_ret (pe_callB (cr_all (by rfl)) (by rfl) T.all (by decide +kernel) (pa_cons (pe_lc (own := [("_law_k", 1)]) (g := gName 1) (tt := tYes) (by rfl) scLaw.nd
      (pi_range1 (by rfl) T.range (pa_cons (pe_op op_add pe_int (pe_callB (call_min2 (by rfl)) (by rfl) T.min (by decide +kernel) (pa_cons pe_int (pa_cons (pe_callB call_len_seq (by rfl) T.len PySem.boot_len (pa_cons (pv 0) pa_nil)) pa_nil)))) pa_nil))
      (blkOk_by (own := [("_law_k", 1)]) (N := ["_law_script", "_law_k"]) (sc := defScope sLaw) (by decide +kernel))
      (fun _ _ _ _ _ => pg_name (i := 1) scLaw.nd rfl (.inl rfl)) (fun _ _ _ _ _ => pts_nil)
      (fun _ _ _ _ _ => pe_gn GR hg hr (by rfl) DR.mgf DR.fn.kp DR.bd (pa_cons (pe_ca cH hr (by decide) (by rfl) (pa_cons (pv 0) (pa_cons (pv 1) pa_nil))) pa_nil))) pa_nil))), ?_⟩
    refine ⟨_, rfl, a, _, rfl, .inl hS, 4, _, rfl, 2, _, rfl, rfl, _, rfl, ?_, ?_, fun L nL => ?_⟩
    · rw [List.length_map]
      split <;> omega
    · rw [List.length_map]
      split <;> omega
    · refine lc_range (lo := 0) (fun i Hi => Same H Hi ∧ Hi L = some (.lst ((List.replicate i true).map V.bl))) ⟨same_upd nL, upd_same⟩ ?_ ?_
      · rintro i Hi hi ⟨sm, hL⟩
        refine ⟨rfl, ?_⟩
        unfold tYes
        refine iteT ?_
        refine ⟨_, rfl, _, rfl, a, 0 + (i : Int), ns, rfl, by omega, sm.seq hS, fun p g m np g0 m0 m1 => ?_⟩
        refine ⟨p, rfl, ⟨g, m, 0, upd_same, g0, m0, m1, Int.le_refl _, Int.le_refl _⟩, fun H' bt => ?_⟩
        have nLp : L ≠ p := ne_of_none hL np
        refine ⟨_, bt L _ nLp (same_upd np _ _ hL), ?_, fun b o e => ?_, ?_⟩
        · rw [List.length_map, List.length_replicate]
          refine small1000 ?_
          have : i < (2 + (if ((ns.map V.int).length : Int) < 4 then ((ns.map V.int).length : Int) else 4)).toNat := hi
          rw [List.length_map] at this
          split at this <;> omega
        · rw [upd_ne (ne_of_none e nL)]
          have e2 := sm _ _ e
          exact bt _ _ (ne_of_none e2 np) (same_upd np _ _ e2)
        · rw [upd_same, List.replicate_succ', List.map_append]
          rfl
      · rintro He ⟨sm, hL⟩
        refine ⟨L, _, rfl, SqL.of hL, ?_⟩
        rw [show (List.replicate _ true).all id = true from List.all_eq_true.mpr fun b hb => (List.mem_replicate.mp hb).2]
        exact q _
end
end K4
namespace K4
open PySem PySem.Spec PyProof.Rows L2

theorem kit_self {K : PySem.W.Frag} {C : Addr} : PySem.W.kitOne K (.ref C) (.ref C) = some true := by
  unfold PySem.W.kitOne
  simp
theorem all_mk {l : PySem.W.OpenLaw} {w : World} {K : PySem.W.Frag} {h : Heap} {mg : Str → Option Value} {fa C fI tI aM fB tB f0 f1 f2 f3 f4 f5 f6 f7 f8 f9 f10 f11 f12 f13 f14 f15 f16 f17 f18 f19 : Addr}
    {odI anI odT odM odB anB odU od0 an0 od1 an1 od2 an2 od3 an3 od4 an4 od5 an5 od6 an6 od7 an7 od8 an8 od9 an9 od10 an10 od11 an11 od12 an12 od13 an13 od14 an14 od15 an15 od16 an16 od17 an17 od18 an18 od19 an19 : Option Addr}
    {slI slT slM slB slU sl0 sl1 sl2 sl3 sl4 sl5 sl6 sl7 sl8 sl9 sl10 sl11 sl12 sl13 sl14 sl15 sl16 sl17 sl18 sl19 : Array (Option Value)}
    {ocI kVI dcI pmI cdI ctI ocT ocB kVB dcB pmB cdB ctB ocU oc0 kV0 dc0 pm0 cd0 ct0 oc1 kV1 dc1 pm1 cd1 ct1 oc2 kV2 dc2 pm2 cd2 ct2 oc3 kV3 dc3 pm3 cd3 ct3 oc4 kV4 dc4 pm4 cd4 ct4 oc5 kV5 dc5 pm5 cd5 ct5 oc6 kV6 dc6 pm6 cd6 ct6 oc7 kV7 dc7 pm7 cd7 ct7 oc8 kV8 dc8 pm8 cd8 ct8 oc9 kV9 dc9 pm9 cd9 ct9 oc10 kV10 dc10 pm10 cd10 ct10 oc11 kV11 dc11 pm11 cd11 ct11 oc12 kV12 dc12 pm12 cd12 ct12 oc13 kV13 dc13 pm13 cd13 ct13 oc14 kV14 dc14 pm14 cd14 ct14 oc15 kV15 dc15 pm15 cd15 ct15 oc16 kV16 dc16 pm16 cd16 ct16 oc17 kV17 dc17 pm17 cd17 ct17 oc18 kV18 dc18 pm18 cd18 ct18 oc19 kV19 dc19 pm19 cd19 ct19 : Value}
    {nT nM nU : Nat} {tY tO tF u0 u1 u2 u3 u4 u5 u6 u7 u8 u9 u10 u11 : Tok}
    (X : K.In h) (G : h.Ns mainGlobals mg) (hfa : mg "law" = some (.ref fa))
    (a0 : PySem.W.nsIn K mainGlobals "is_whole" = some (some (.ref f0)))
    (l0 : K.lookup f0 = some ⟨oc0, od0, .func (PySem.W.fnOf "is_whole" "is_whole" (defArgs sWhole) (defBody sWhole) (defScope sWhole) .none kV0 dc0 pm0 an0 cd0 ct0), sl0⟩)
    (c0 : PySem.W.codeIn K cd0 "is_whole" = true)
    (k0 : PySem.W.keepIn K (.ref f0) = true)
    (a1 : PySem.W.nsIn K mainGlobals "is_within" = some (some (.ref f1)))
    (l1 : K.lookup f1 = some ⟨oc1, od1, .func (PySem.W.fnOf "is_within" "is_within" (defArgs sWithin) (defBody sWithin) (defScope sWithin) .none kV1 dc1 pm1 an1 cd1 ct1), sl1⟩)
    (c1 : PySem.W.codeIn K cd1 "is_within" = true)
    (k1 : PySem.W.keepIn K (.ref f1) = true)
    (a2 : PySem.W.nsIn K mainGlobals "is_leap" = some (some (.ref f2)))
    (l2 : K.lookup f2 = some ⟨oc2, od2, .func (PySem.W.fnOf "is_leap" "is_leap" (defArgs sLeap) (defBody sLeap) (defScope sLeap) .none kV2 dc2 pm2 an2 cd2 ct2), sl2⟩)
    (c2 : PySem.W.codeIn K cd2 "is_leap" = true)
    (k2 : PySem.W.keepIn K (.ref f2) = true)
    (a3 : PySem.W.nsIn K mainGlobals "days_in" = some (some (.ref f3)))
    (l3 : K.lookup f3 = some ⟨oc3, od3, .func (PySem.W.fnOf "days_in" "days_in" (defArgs sDaysIn) (defBody sDaysIn) (defScope sDaysIn) .none kV3 dc3 pm3 an3 cd3 ct3), sl3⟩)
    (c3 : PySem.W.codeIn K cd3 "days_in" = true)
    (k3 : PySem.W.keepIn K (.ref f3) = true)
    (a4 : PySem.W.nsIn K mainGlobals "makes_day" = some (some (.ref f4)))
    (l4 : K.lookup f4 = some ⟨oc4, od4, .func (PySem.W.fnOf "makes_day" "makes_day" (defArgs sMakes) (defBody sMakes) (defScope sMakes) .none kV4 dc4 pm4 an4 cd4 ct4), sl4⟩)
    (c4 : PySem.W.codeIn K cd4 "makes_day" = true)
    (k4 : PySem.W.keepIn K (.ref f4) = true)
    (a5 : PySem.W.nsIn K mainGlobals "earliest" = some (some (.ref f5)))
    (l5 : K.lookup f5 = some ⟨oc5, od5, .func (PySem.W.fnOf "earliest" "earliest" (defArgs sEarliest) (defBody sEarliest) (defScope sEarliest) .none kV5 dc5 pm5 an5 cd5 ct5), sl5⟩)
    (c5 : PySem.W.codeIn K cd5 "earliest" = true)
    (k5 : PySem.W.keepIn K (.ref f5) = true)
    (a6 : PySem.W.nsIn K mainGlobals "latest" = some (some (.ref f6)))
    (l6 : K.lookup f6 = some ⟨oc6, od6, .func (PySem.W.fnOf "latest" "latest" (defArgs sLatest) (defBody sLatest) (defScope sLatest) .none kV6 dc6 pm6 an6 cd6 ct6), sl6⟩)
    (c6 : PySem.W.codeIn K cd6 "latest" = true)
    (k6 : PySem.W.keepIn K (.ref f6) = true)
    (a7 : PySem.W.nsIn K mainGlobals "parts_of" = some (some (.ref f7)))
    (l7 : K.lookup f7 = some ⟨oc7, od7, .func (PySem.W.fnOf "parts_of" "parts_of" (defArgs sPartsOf) (defBody sPartsOf) (defScope sPartsOf) .none kV7 dc7 pm7 an7 cd7 ct7), sl7⟩)
    (c7 : PySem.W.codeIn K cd7 "parts_of" = true)
    (k7 : PySem.W.keepIn K (.ref f7) = true)
    (a8 : PySem.W.nsIn K mainGlobals "place_of" = some (some (.ref f8)))
    (l8 : K.lookup f8 = some ⟨oc8, od8, .func (PySem.W.fnOf "place_of" "place_of" (defArgs sPlace) (defBody sPlace) (defScope sPlace) .none kV8 dc8 pm8 an8 cd8 ct8), sl8⟩)
    (c8 : PySem.W.codeIn K cd8 "place_of" = true)
    (k8 : PySem.W.keepIn K (.ref f8) = true)
    (a9 : PySem.W.nsIn K mainGlobals "_law_hand" = some (some (.ref f9)))
    (l9 : K.lookup f9 = some ⟨oc9, od9, .func (PySem.W.fnOf "_law_hand" "_law_hand" (defArgs sHand) (defBody sHand) (defScope sHand) .none kV9 dc9 pm9 an9 cd9 ct9), sl9⟩)
    (c9 : PySem.W.codeIn K cd9 "_law_hand" = true)
    (k9 : PySem.W.keepIn K (.ref f9) = true)
    (a10 : PySem.W.nsIn K mainGlobals "_law_take" = some (some (.ref f10)))
    (l10 : K.lookup f10 = some ⟨oc10, od10, .func (PySem.W.fnOf "_law_take" "_law_take" (defArgs sTake) (defBody sTake) (defScope sTake) .none kV10 dc10 pm10 an10 cd10 ct10), sl10⟩)
    (c10 : PySem.W.codeIn K cd10 "_law_take" = true)
    (k10 : PySem.W.keepIn K (.ref f10) = true)
    (a11 : PySem.W.nsIn K mainGlobals "_law_pick" = some (some (.ref f11)))
    (l11 : K.lookup f11 = some ⟨oc11, od11, .func (PySem.W.fnOf "_law_pick" "_law_pick" (defArgs sPick) (defBody sPick) (defScope sPick) .none kV11 dc11 pm11 an11 cd11 ct11), sl11⟩)
    (c11 : PySem.W.codeIn K cd11 "_law_pick" = true)
    (k11 : PySem.W.keepIn K (.ref f11) = true)
    (a12 : PySem.W.nsIn K mainGlobals "_law_last" = some (some (.ref f12)))
    (l12 : K.lookup f12 = some ⟨oc12, od12, .func (PySem.W.fnOf "_law_last" "_law_last" (defArgs sLast) (defBody sLast) (defScope sLast) .none kV12 dc12 pm12 an12 cd12 ct12), sl12⟩)
    (c12 : PySem.W.codeIn K cd12 "_law_last" = true)
    (k12 : PySem.W.keepIn K (.ref f12) = true)
    (a13 : PySem.W.nsIn K mainGlobals "_law_parts" = some (some (.ref f13)))
    (l13 : K.lookup f13 = some ⟨oc13, od13, .func (PySem.W.fnOf "_law_parts" "_law_parts" (defArgs sParts) (defBody sParts) (defScope sParts) .none kV13 dc13 pm13 an13 cd13 ct13), sl13⟩)
    (c13 : PySem.W.codeIn K cd13 "_law_parts" = true)
    (k13 : PySem.W.keepIn K (.ref f13) = true)
    (a14 : PySem.W.nsIn K mainGlobals "_law_reach" = some (some (.ref f14)))
    (l14 : K.lookup f14 = some ⟨oc14, od14, .func (PySem.W.fnOf "_law_reach" "_law_reach" (defArgs sReach) (defBody sReach) (defScope sReach) .none kV14 dc14 pm14 an14 cd14 ct14), sl14⟩)
    (c14 : PySem.W.codeIn K cd14 "_law_reach" = true)
    (k14 : PySem.W.keepIn K (.ref f14) = true)
    (a15 : PySem.W.nsIn K mainGlobals "_law_drawn" = some (some (.ref f15)))
    (l15 : K.lookup f15 = some ⟨oc15, od15, .func (PySem.W.fnOf "_law_drawn" "_law_drawn" (defArgs sDrawn) (defBody sDrawn) (defScope sDrawn) .none kV15 dc15 pm15 an15 cd15 ct15), sl15⟩)
    (c15 : PySem.W.codeIn K cd15 "_law_drawn" = true)
    (k15 : PySem.W.keepIn K (.ref f15) = true)
    (a16 : PySem.W.nsIn K mainGlobals "_law_put" = some (some (.ref f16)))
    (l16 : K.lookup f16 = some ⟨oc16, od16, .func (PySem.W.fnOf "_law_put" "_law_put" (defArgs sPut) (defBody sPut) (defScope sPut) .none kV16 dc16 pm16 an16 cd16 ct16), sl16⟩)
    (c16 : PySem.W.codeIn K cd16 "_law_put" = true)
    (k16 : PySem.W.keepIn K (.ref f16) = true)
    (a17 : PySem.W.nsIn K mainGlobals "_law_told" = some (some (.ref f17)))
    (l17 : K.lookup f17 = some ⟨oc17, od17, .func (PySem.W.fnOf "_law_told" "_law_told" (defArgs sTold) (defBody sTold) (defScope sTold) .none kV17 dc17 pm17 an17 cd17 ct17), sl17⟩)
    (c17 : PySem.W.codeIn K cd17 "_law_told" = true)
    (k17 : PySem.W.keepIn K (.ref f17) = true)
    (a18 : PySem.W.nsIn K mainGlobals "_law_right" = some (some (.ref f18)))
    (l18 : K.lookup f18 = some ⟨oc18, od18, .func (PySem.W.fnOf "_law_right" "_law_right" (defArgs sRight) (defBody sRight) (defScope sRight) .none kV18 dc18 pm18 an18 cd18 ct18), sl18⟩)
    (c18 : PySem.W.codeIn K cd18 "_law_right" = true)
    (k18 : PySem.W.keepIn K (.ref f18) = true)
    (a19 : PySem.W.nsIn K mainGlobals "law" = some (some (.ref f19)))
    (l19 : K.lookup f19 = some ⟨oc19, od19, .func (PySem.W.fnOf "law" "law" (defArgs sLaw) (defBody sLaw) (defScope sLaw) .none kV19 dc19 pm19 an19 cd19 ct19), sl19⟩)
    (c19 : PySem.W.codeIn K cd19 "law" = true)
    (k19 : PySem.W.keepIn K (.ref f19) = true)
    (aC : PySem.W.nsIn K mainGlobals "Day" = some (some (.ref C)))
    (aI : PySem.W.findIn K (.ref C) "__init__" = some (some (.ref fI)))
    (iI : PySem.W.isFn K (.ref fI) = true)
    (lI : K.lookup fI = some ⟨ocI, odI, .func (PySem.W.fnOf "__init__" "Day.__init__" (defArgs sInit) (defBody sInit) (defScope sInit) (.ref tI) kVI dcI pmI anI cdI ctI), slI⟩)
    (cI : PySem.W.codeIn K cdI "Day.__init__" = true)
    (kI : PySem.W.keepIn K (.ref fI) = true)
    (lT : K.lookup tI = some ⟨ocT, odT, .seq #[Value.none, Value.none] nT, slT⟩)
    (aB : PySem.W.nsIn K mainGlobals "by_day" = some (some (.ref fB)))
    (lB : K.lookup fB = some ⟨ocB, odB, .func (PySem.W.fnOf "by_day" "by_day" (defArgs sByDay) (defBody sByDay) (defScope sByDay) (.ref tB) kVB dcB pmB anB cdB ctB), slB⟩)
    (cB : PySem.W.codeIn K cdB "by_day" = true)
    (kB : PySem.W.keepIn K (.ref fB) = true)
    (lU : K.lookup tB = some ⟨ocU, odU, .seq #[Value.bool false] nU, slU⟩)
    (pg : PySem.W.plainGet K C Str.empty = true)
    (hd : PySem.W.hasDictIn K C = true)
    (po : PySem.W.plainOver K C = true)
    (sa : PySem.W.findIn K (.ref C) "__setattr__" = some (some (.builtin "object.__setattr__")))
    (mk : PySem.W.makesIn K C = true)
    (kc : PySem.W.keepIn K (.ref C) = true)
    (nY : PySem.W.findIn K (.ref C) "year" = some none)
    (nMo : PySem.W.findIn K (.ref C) "month" = some none)
    (nD : PySem.W.findIn K (.ref C) "day" = some none)
    (ha : PySem.W.findIn K (.ref C) "__class__" = some (some (.builtin "object.__class__")))
    (hn : PySem.W.specialIn K (.builtin "object.__class__") "__get__" = some (some (.builtin "getset_descriptor.__get__")))
    (ht : PySem.W.takesIn K (.builtin "object.__class__") = some true)
    (hm : PySem.W.mroIn K C (.type "object") = some true)
    (gY : PySem.W.nsIn K mainGlobals "LAST_YEAR" = some (some (.int 9999 tY)))
    (gO : PySem.W.nsIn K mainGlobals "MONTHS" = some (some (.int 12 tO)))
    (gF : PySem.W.nsIn K mainGlobals "FEBRUARY" = some (some (.int 2 tF)))
    (gM : PySem.W.nsIn K mainGlobals "MONTH_DAYS" = some (some (.ref aM)))
    (lM : K.lookup aM = some ⟨.type "tuple", odM, .seq #[.int 31 u0, .int 28 u1, .int 31 u2, .int 30 u3, .int 31 u4, .int 30 u5, .int 31 u6, .int 31 u7, .int 30 u8, .int 31 u9, .int 30 u10, .int 31 u11] nM, slM⟩)
    (z_isinstance : PySem.W.nsIn K mainGlobals "isinstance" = some none)
    (z_int : PySem.W.nsIn K mainGlobals "int" = some none)
    (z_bool : PySem.W.nsIn K mainGlobals "bool" = some none)
    (z_len : PySem.W.nsIn K mainGlobals "len" = some none)
    (z_abs : PySem.W.nsIn K mainGlobals "abs" = some none)
    (z_min : PySem.W.nsIn K mainGlobals "min" = some none)
    (z_all : PySem.W.nsIn K mainGlobals "all" = some none)
    (z_sorted : PySem.W.nsIn K mainGlobals "sorted" = some none)
    (z_list : PySem.W.nsIn K mainGlobals "list" = some none)
    (z_tuple : PySem.W.nsIn K mainGlobals "tuple" = some none)
    (z_range : PySem.W.nsIn K mainGlobals "range" = some none)
    (z_repr : PySem.W.nsIn K mainGlobals "repr" = some none)
    : ∃ fd : FuncData, (∀ (s : Shared) (v : Value), BindsTo s fd ⟨[v], []⟩ [("_law_script", v)]) ∧
      ∀ base : Heap, K.In base → base.Ns mainGlobals mg → Gn l.prog w K mg base 12 fa fd ["_law_script"] (spLaw K) := by
  have e := hfa.symm.trans (PySem.W.mg_of X G a19)
  cases e
  have T : Txt K mg C := ⟨⟨pg, hd, po, sa⟩, nY, nMo, nD, PySem.W.mg_of X G aC, ⟨⟨pg, hd, po, sa⟩, ha, hn, ht, hm, kit_self⟩, ⟨_, PySem.W.mg_of X G gY⟩, ⟨_, PySem.W.mg_of X G gO⟩, ⟨_, PySem.W.mg_of X G gF⟩,
    ⟨aM, PySem.W.mg_of X G gM, fun H => .inr ⟨_, _, _, lM, rfl, rfl, (by show 12 ≤ sizeLine; decide), .cons ⟨_, rfl⟩ (.cons ⟨_, rfl⟩ (.cons ⟨_, rfl⟩ (.cons ⟨_, rfl⟩ (.cons ⟨_, rfl⟩ (.cons ⟨_, rfl⟩ (.cons ⟨_, rfl⟩ (.cons ⟨_, rfl⟩ (.cons ⟨_, rfl⟩ (.cons ⟨_, rfl⟩ (.cons ⟨_, rfl⟩ (.cons ⟨_, rfl⟩ (.nil))))))))))))⟩⟩,
    PySem.W.mg_none_of X G z_isinstance, PySem.W.mg_none_of X G z_int, PySem.W.mg_none_of X G z_bool, PySem.W.mg_none_of X G z_len, PySem.W.mg_none_of X G z_abs, PySem.W.mg_none_of X G z_min, PySem.W.mg_none_of X G z_all, PySem.W.mg_none_of X G z_sorted, PySem.W.mg_none_of X G z_list, PySem.W.mg_none_of X G z_tuple, PySem.W.mg_none_of X G z_range, PySem.W.mg_none_of X G z_repr⟩
  have F0 := fun_mk (st := sWhole) l0 c0 k0
  have D0 : Df K mg "is_whole" ["thing"] sWhole f0 _ := ⟨F0, PySem.W.mg_of X G a0, F0.binds (ps := ["thing"]) fun _ _ _ _ _ _ us hl => match us, hl with | [_], _ => rfl⟩
  have F1 := fun_mk (st := sWithin) l1 c1 k1
  have D1 : Df K mg "is_within" ["thing", "least", "most"] sWithin f1 _ := ⟨F1, PySem.W.mg_of X G a1, F1.binds (ps := ["thing", "least", "most"]) fun _ _ _ _ _ _ us hl => match us, hl with | [_, _, _], _ => rfl⟩
  have F2 := fun_mk (st := sLeap) l2 c2 k2
  have D2 : Df K mg "is_leap" ["year"] sLeap f2 _ := ⟨F2, PySem.W.mg_of X G a2, F2.binds (ps := ["year"]) fun _ _ _ _ _ _ us hl => match us, hl with | [_], _ => rfl⟩
  have F3 := fun_mk (st := sDaysIn) l3 c3 k3
  have D3 : Df K mg "days_in" ["year", "month"] sDaysIn f3 _ := ⟨F3, PySem.W.mg_of X G a3, F3.binds (ps := ["year", "month"]) fun _ _ _ _ _ _ us hl => match us, hl with | [_, _], _ => rfl⟩
  have F4 := fun_mk (st := sMakes) l4 c4 k4
  have D4 : Df K mg "makes_day" ["year", "month", "day"] sMakes f4 _ := ⟨F4, PySem.W.mg_of X G a4, F4.binds (ps := ["year", "month", "day"]) fun _ _ _ _ _ _ us hl => match us, hl with | [_, _, _], _ => rfl⟩
  have F5 := fun_mk (st := sEarliest) l5 c5 k5
  have D5 : Df K mg "earliest" ["day"] sEarliest f5 _ := ⟨F5, PySem.W.mg_of X G a5, F5.binds (ps := ["day"]) fun _ _ _ _ _ _ us hl => match us, hl with | [_], _ => rfl⟩
  have F6 := fun_mk (st := sLatest) l6 c6 k6
  have D6 : Df K mg "latest" ["day"] sLatest f6 _ := ⟨F6, PySem.W.mg_of X G a6, F6.binds (ps := ["day"]) fun _ _ _ _ _ _ us hl => match us, hl with | [_], _ => rfl⟩
  have F7 := fun_mk (st := sPartsOf) l7 c7 k7
  have D7 : Df K mg "parts_of" ["day"] sPartsOf f7 _ := ⟨F7, PySem.W.mg_of X G a7, F7.binds (ps := ["day"]) fun _ _ _ _ _ _ us hl => match us, hl with | [_], _ => rfl⟩
  have F8 := fun_mk (st := sPlace) l8 c8 k8
  have D8 : Df K mg "place_of" ["day"] sPlace f8 _ := ⟨F8, PySem.W.mg_of X G a8, F8.binds (ps := ["day"]) fun _ _ _ _ _ _ us hl => match us, hl with | [_], _ => rfl⟩
  have F9 := fun_mk (st := sHand) l9 c9 k9
  have D9 : Df K mg "_law_hand" ["_law_script", "_law_k"] sHand f9 _ := ⟨F9, PySem.W.mg_of X G a9, F9.binds (ps := ["_law_script", "_law_k"]) fun _ _ _ _ _ _ us hl => match us, hl with | [_, _], _ => rfl⟩
  have F10 := fun_mk (st := sTake) l10 c10 k10
  have D10 : Df K mg "_law_take" ["_law_hand_here", "_law_many"] sTake f10 _ := ⟨F10, PySem.W.mg_of X G a10, F10.binds (ps := ["_law_hand_here", "_law_many"]) fun _ _ _ _ _ _ us hl => match us, hl with | [_, _], _ => rfl⟩
  have F11 := fun_mk (st := sPick) l11 c11 k11
  have D11 : Df K mg "_law_pick" ["_law_hand_here", "_law_some"] sPick f11 _ := ⟨F11, PySem.W.mg_of X G a11, F11.binds (ps := ["_law_hand_here", "_law_some"]) fun _ _ _ _ _ _ us hl => match us, hl with | [_, _], _ => rfl⟩
  have F12 := fun_mk (st := sLast) l12 c12 k12
  have D12 : Df K mg "_law_last" ["_law_y", "_law_m"] sLast f12 _ := ⟨F12, PySem.W.mg_of X G a12, F12.binds (ps := ["_law_y", "_law_m"]) fun _ _ _ _ _ _ us hl => match us, hl with | [_, _], _ => rfl⟩
  have F13 := fun_mk (st := sParts) l13 c13 k13
  have D13 : Df K mg "_law_parts" ["_law_hand_here"] sParts f13 _ := ⟨F13, PySem.W.mg_of X G a13, F13.binds (ps := ["_law_hand_here"]) fun _ _ _ _ _ _ us hl => match us, hl with | [_], _ => rfl⟩
  have F14 := fun_mk (st := sReach) l14 c14 k14
  have D14 : Df K mg "_law_reach" ["_law_parts_here"] sReach f14 _ := ⟨F14, PySem.W.mg_of X G a14, F14.binds (ps := ["_law_parts_here"]) fun _ _ _ _ _ _ us hl => match us, hl with | [_], _ => rfl⟩
  have F15 := fun_mk (st := sDrawn) l15 c15 k15
  have D15 : Df K mg "_law_drawn" ["_law_hand_here"] sDrawn f15 _ := ⟨F15, PySem.W.mg_of X G a15, F15.binds (ps := ["_law_hand_here"]) fun _ _ _ _ _ _ us hl => match us, hl with | [_], _ => rfl⟩
  have F16 := fun_mk (st := sPut) l16 c16 k16
  have D16 : Df K mg "_law_put" ["_law_parts_here", "_law_order"] sPut f16 _ := ⟨F16, PySem.W.mg_of X G a16, F16.binds (ps := ["_law_parts_here", "_law_order"]) fun _ _ _ _ _ _ us hl => match us, hl with | [_, _], _ => rfl⟩
  have F17 := fun_mk (st := sTold) l17 c17 k17
  have D17 : Df K mg "_law_told" ["_law_some"] sTold f17 _ := ⟨F17, PySem.W.mg_of X G a17, F17.binds (ps := ["_law_some"]) fun _ _ _ _ _ _ us hl => match us, hl with | [_], _ => rfl⟩
  have F18 := fun_mk (st := sRight) l18 c18 k18
  have D18 : Df K mg "_law_right" ["_law_hand_here"] sRight f18 _ := ⟨F18, PySem.W.mg_of X G a18, F18.binds (ps := ["_law_hand_here"]) fun _ _ _ _ _ _ us hl => match us, hl with | [_], _ => rfl⟩
  have F19 := fun_mk (st := sLaw) l19 c19 k19
  have D19 : Df K mg "law" ["_law_script"] sLaw fa _ := ⟨F19, PySem.W.mg_of X G a19, F19.binds (ps := ["_law_script"]) fun _ _ _ _ _ _ us hl => match us, hl with | [_], _ => rfl⟩
  have FI : FunD K "__init__" "Day.__init__" (defArgs sInit) (defBody sInit) (defScope sInit) [.non, .non] [] fI _ :=
    ⟨⟨_, _, _, _, _, _, _, _, _, _, rfl, lI, cI, .inr ⟨by simp, tI, _, [Value.none, Value.none], _, rfl, lT, rfl, .cons rfl (.cons rfl .nil)⟩, .inl rfl⟩, kI⟩
  have FB : FunD K "by_day" "by_day" (defArgs sByDay) (defBody sByDay) (defScope sByDay) [.bl false] [] fB _ :=
    ⟨⟨_, _, _, _, _, _, _, _, _, _, rfl, lB, cB, .inr ⟨by simp, tB, _, [Value.bool false], _, rfl, lU, rfl, .cons rfl .nil⟩, .inl rfl⟩, kB⟩
  refine ⟨PySem.W.fnOf "law" "law" (defArgs sLaw) (defBody sLaw) (defScope sLaw) .none kV19 dc19 pm19 an19 cd19 ct19, fun s v => .of_eq rfl, fun base kb gb => ?g⟩
  case g =>
    have c0 := D0.ca (ok_whole (P := l.prog) (w := w) (base := base) D0 T)
    have c1 := D1.ca (ok_within D1 T c0)
    have c2 := D2.ca (ok_leap (P := l.prog) (w := w) (base := base) D2)
    have c3 := D3.ca (ok_daysIn D3 T c2)
    have c4 := D4.ca (ok_makes D4 T c1 c3)
    have mD : Ma l.prog w K mg base 4 "Day" C ["self", "year", "month", "day"] (spInit C) := ⟨fI, _, ⟨mk, aI, iI, kc⟩, ok_init FI T c4, T.mgC, init_binds FI⟩
    have c5 := D5.ca (ok_earliest D5 T mD)
    have c6 := D6.ca (ok_latest D6 T mD c3)
    have c7 := D7.ca (ok_partsOf (P := l.prog) (w := w) (base := base) D7 T)
    have o8 := ok_place D8 T c7 c5 c6
    have oB := ok_byDay FB T D8 o8
    have bY := by_mk FB oB (PySem.W.mg_of X G aB)
    have c9 := D9.ca (ok_hand (P := l.prog) (w := w) (base := base) D9 T)
    have c10 := D10.ca (ok_take (P := l.prog) (w := w) (base := base) D10)
    have c11 := D11.ca (ok_pick D11 T c10)
    have c12 := D12.ca (ok_last (P := l.prog) (w := w) (base := base) D12)
    have c13 := D13.ca (ok_parts D13 c10 c11 c12)
    have c14 := D14.ca (ok_reach D14 c12)
    have c15 := D15.ca (ok_drawn D15 T c10 c11 c12 c13)
    have c16 := D16.ca (ok_put D16 T c14)
    have c17 := D17.ca (ok_told (P := l.prog) (w := w) (base := base) D17 T)
    exact ok_law D19 T c9 D18 (ok_right D18 T c10 c15 c16 c17 mD bY)
end K4
open PySem PySem.W PyProof.Rows
set_option maxRecDepth 100000 in
set_option maxHeartbeats 0 in
theorem PySem.Challenge.cw_takesworks_k04_days_in_order_holds : PySem.Challenge.rw_takesworks_k04_days_in_order.Holds := by
  w_on; o_law; k_head; (case hw => w_witness2)
  k_fill
  refine K4.walk_go (l := PySem.Challenge.rw_takesworks_k04_days_in_order) (n := 63) (k := 12) (x := "_law_script") (sp := K4.spLaw) rfl (by decide) rfl ⟨rfl, by decide, by decide⟩ (fun w h Y => PySem.W.kIn_of Y) ?F
    (fun _ _ a ns hl hS => ⟨a, ns, rfl, hS, hl, fun _ => rfl⟩)
  case F =>
    intro w mg fa h KX G hmg
    refine' K4.all_mk KX G hmg ?a0 ?l0 ?c0 ?k0 ?a1 ?l1 ?c1 ?k1 ?a2 ?l2 ?c2 ?k2 ?a3 ?l3 ?c3 ?k3 ?a4 ?l4 ?c4 ?k4 ?a5 ?l5 ?c5 ?k5 ?a6 ?l6 ?c6 ?k6 ?a7 ?l7 ?c7 ?k7 ?a8 ?l8 ?c8 ?k8 ?a9 ?l9 ?c9 ?k9 ?a10 ?l10 ?c10 ?k10 ?a11 ?l11 ?c11 ?k11 ?a12 ?l12 ?c12 ?k12 ?a13 ?l13 ?c13 ?k13 ?a14 ?l14 ?c14 ?k14 ?a15 ?l15 ?c15 ?k15 ?a16 ?l16 ?c16 ?k16 ?a17 ?l17 ?c17 ?k17 ?a18 ?l18 ?c18 ?k18 ?a19 ?l19 ?c19 ?k19 ?aC ?aI ?iI ?lI ?cI ?kI ?lT ?aB ?lB ?cB ?kB ?lU ?pg ?hd ?po ?sa ?mk ?kc ?nY ?nMo ?nD ?ha ?hn ?ht ?hm ?gY ?gO ?gF ?gM ?lM ?z_isinstance ?z_int ?z_bool ?z_len ?z_abs ?z_min ?z_all ?z_sorted ?z_list ?z_tuple ?z_range ?z_repr
    (case a0 => k_is)
    (case l0 => k_is)
    (case c0 => k_is)
    (case k0 => k_is)
    (case a1 => k_is)
    (case l1 => k_is)
    (case c1 => k_is)
    (case k1 => k_is)
    (case a2 => k_is)
    (case l2 => k_is)
    (case c2 => k_is)
    (case k2 => k_is)
    (case a3 => k_is)
    (case l3 => k_is)
    (case c3 => k_is)
    (case k3 => k_is)
    (case a4 => k_is)
    (case l4 => k_is)
    (case c4 => k_is)
    (case k4 => k_is)
    (case a5 => k_is)
    (case l5 => k_is)
    (case c5 => k_is)
    (case k5 => k_is)
    (case a6 => k_is)
    (case l6 => k_is)
    (case c6 => k_is)
    (case k6 => k_is)
    (case a7 => k_is)
    (case l7 => k_is)
    (case c7 => k_is)
    (case k7 => k_is)
    (case a8 => k_is)
    (case l8 => k_is)
    (case c8 => k_is)
    (case k8 => k_is)
    (case a9 => k_is)
    (case l9 => k_is)
    (case c9 => k_is)
    (case k9 => k_is)
    (case a10 => k_is)
    (case l10 => k_is)
    (case c10 => k_is)
    (case k10 => k_is)
    (case a11 => k_is)
    (case l11 => k_is)
    (case c11 => k_is)
    (case k11 => k_is)
    (case a12 => k_is)
    (case l12 => k_is)
    (case c12 => k_is)
    (case k12 => k_is)
    (case a13 => k_is)
    (case l13 => k_is)
    (case c13 => k_is)
    (case k13 => k_is)
    (case a14 => k_is)
    (case l14 => k_is)
    (case c14 => k_is)
    (case k14 => k_is)
    (case a15 => k_is)
    (case l15 => k_is)
    (case c15 => k_is)
    (case k15 => k_is)
    (case a16 => k_is)
    (case l16 => k_is)
    (case c16 => k_is)
    (case k16 => k_is)
    (case a17 => k_is)
    (case l17 => k_is)
    (case c17 => k_is)
    (case k17 => k_is)
    (case a18 => k_is)
    (case l18 => k_is)
    (case c18 => k_is)
    (case k18 => k_is)
    (case a19 => k_is)
    (case l19 => k_is)
    (case c19 => k_is)
    (case k19 => k_is)
    (case aC => k_is)
    (case aI => k_is)
    (case iI => k_is)
    (case lI => k_is)
    (case cI => k_is)
    (case kI => k_is)
    (case lT => k_is)
    (case aB => k_is)
    (case lB => k_is)
    (case cB => k_is)
    (case kB => k_is)
    (case lU => k_is)
    (case pg => k_is)
    (case hd => k_is)
    (case po => k_is)
    (case sa => k_is)
    (case mk => k_is)
    (case kc => k_is)
    (case nY => k_is)
    (case nMo => k_is)
    (case nD => k_is)
    (case ha => k_is)
    (case hn => k_is)
    (case ht => k_is)
    (case hm => k_is)
    (case gY => k_is)
    (case gO => k_is)
    (case gF => k_is)
    (case gM => k_is)
    (case lM => k_is)
    (case z_isinstance => k_is)
    (case z_int => k_is)
    (case z_bool => k_is)
    (case z_len => k_is)
    (case z_abs => k_is)
    (case z_min => k_is)
    (case z_all => k_is)
    (case z_sorted => k_is)
    (case z_list => k_is)
    (case z_tuple => k_is)
    (case z_range => k_is)
    (case z_repr => k_is)
