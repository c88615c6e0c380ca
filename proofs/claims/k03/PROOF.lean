import PyProof.Rows.All
import Wide.All
import OpenK.AllK
import Wide.FinOn
import HandS.ForMost
import HandS.Wide
import HandS.Flow
import HandS.IsInst
import HandS.Codes
import HandS.TupLe
import HandS.Zip
import HandS.Walk
import HandS.FStrTup
import HandS.RaiseMore
import PyProof.ReprRoads
import HandS.Defaults
import PySem.Challenge.RW_takesworks_k03_what_days_may_be
set_option Elab.async false
set_option linter.all false
set_option maxRecDepth 100000
set_option maxHeartbeats 4000000
namespace K3
open PySem PySem.Spec PyProof.Rows L2

/-! ## defs that show things: promises where no showing is under way -/
structure Gn (P : Program) (w : World) (K : PySem.W.Frag) (mg : Str → Option Value) (base : Heap) (k : Nat) (f : Addr) (fd : FuncData) (ps : List Str) (sp : Sp) : Prop where
  many : ∀ vs H Q E, sp vs H Q E → vs.length = ps.length
  go : ∀ (A : Around) (outer : List Env) (s : Shared) (H : Hp) (args : Args) (us : List Value) (vs : List V) (Q : VK) (E : XK), A.guards = some [] → Room k A →
    Env0 P w K mg base A outer s H → BindsTo s fd args (ps.zip us) → Vals vs us → sp vs H Q E → codeAny (model P w) A (.call (.ref f) args) (CR CX0 outer P w H s Q E) s

section
variable {P : Program} {w : World} {K : PySem.W.Frag} {mg : Str → Option Value} {base : Heap}

theorem gn_body {x qual : Str} {st : Stmt} {f : Addr} {fd : FuncData} {N ps : List Str} {k : Nat} {sp : Sp} (F : Fun K x qual st f fd) (S : FnScope N ps (defScope st))
    (many : ∀ vs H Q E, sp vs H Q E → vs.length = ps.length)
    (body : ∀ (cdv : Value) (A : Around) (outer : List Env) (s : Shared) (H : Hp) (vs : List V) (Q : VK) (E : XK), A.guards = some [] →
      Room k (A.deeper (envOfC qual (defScope st) s.heap.objs.size f cdv)) → sp vs H Q E →
      ∃ t, PSs (cxOf CX0 P w K mg base N qual (defScope st) f cdv A outer s H E).nox (defBody st) t ∧ t { nx := fun _ H' => Q .non H', rt := Q } (start N vs) H) :
    Gn P w K mg base (k + 1) f fd ps sp := by
  obtain ⟨oc, od, kV, doc, pm, an, cdv, ct, osl, rfl, lk, hcd⟩ := F.ex
  refine ⟨many, fun A outer s H args us vs Q E hg room en bd rv hsp => ?_⟩
  have kin : K.In s.heap := en.mod.kin.keeps fun b o q => (en.bs b o q).1
  refine Att.call_fn kin (en.mod.nolimit.keeps fun b o q => (en.bs b o q).1) lk hcd room.depth bd ?_ (fun s1 inc => ?_) S.co S.gen S.kind
  · refine List.all_eq_true.mpr fun y hy => ?_
    rcases S.par y.1 (List.of_mem_zip (a := y.1) (b := y.2) hy).1 with q | q
    · rw [q]; rfl
    · rw [q]; rfl
  · obtain ⟨t, ht, hq⟩ := body cdv A outer s H vs Q E hg (room.deeper _) hsp
    have I := inv_start (CX := CX0) (E := E) S room.hd en (many _ _ _ _ hsp) rv inc
    refine wpAny_mono (ht.nox.run [] s1 _ H _ I hq) (fun fl s' hs => ?_) fun _ _ z => z
    cases fl with
    | ret u =>
      obtain ⟨v, _, H', J, r, q⟩ := hs
      exact ⟨v, H', J.os, J.bare, J.base, J.hok, r, q⟩
    | next =>
      obtain ⟨_, H', J, q⟩ := hs
      exact ⟨.non, H', J.os, J.bare, J.base, J.hok, rfl, q⟩
    | brk =>
      obtain ⟨_, _, _, z⟩ := hs
      exact False.elim z
    | cont =>
      obtain ⟨_, _, _, z⟩ := hs
      exact False.elim z

end
section
variable {X : Cx} {k : Nat} {f : Addr} {fd : FuncData} {ps : List Str} {sp : Sp} {x : Str} {p pos : Pos} {e : Expr} {es : List Expr} {t : TA}

theorem pe_gn (F : Gn X.prog X.w X.K X.mg X.base k f fd ps sp) (quiet : X.A.guards = some []) (room : Room k X.A) (gl : Gl X x) (mgf : X.mg x = some (.ref f))
    (kp : PySem.W.keepIn X.K (.ref f) = true) (bd : Binds X.K fd ps []) (ha : PA X (e :: es) t) (hdb : (x == ("__debug__" : Str)) = false := by decide)
    (he : starEach (e :: es) X.env = (false, eval e X.env) :: starEach es X.env := by rfl) (hpl : (backTo pos (starEach es X.env)).any (·.1) = false := by rfl) :
    PE X (.Call (.Name x p) (e :: es) [] pos) (tCall sp [] E0 t) := by
  refine ⟨fun pins s σ H Q I h => wpAny_Call_Name_kw (ld_glob I gl mgf ?_ hdb)⟩
  refine PySem.W.callWith_K (h₀ := X.base) I.ok.mod.kin kp ?_ he hpl
  refine thn (ha.run pos pins s σ H _ I h) fun us s1 z => ?_
  obtain ⟨vs, H1, I1, rv, q⟩ := z
  have q' : sp vs H1 Q E0 := by
    have z := q
    rw [List.append_nil] at z
    exact z
  have many : us.length = ps.length := rv.length.symm.trans (F.many _ _ _ _ q')
  have b1 := bd s1 us I1.kIn (by rw [List.append_nil]; exact many)
  rw [List.append_nil] at b1
  refine ⟨I1.kIn, wpAny_call (codeAny_mono (F.go X.A X.stack s1 H1 ⟨us, []⟩ us vs Q E0 quiet room I1.env0 b1 rv q') fun r s' hr => ?_)⟩
  cases r with
  | error z => exact False.elim hr
  | ok fl =>
    cases fl with
    | ret u => exact I1.after hr
    | next => exact False.elim hr
    | brk => exact False.elim hr
    | cont => exact False.elim hr

/-- repr of data at any depth -/
theorem cr_reprD (quiet : X.A.guards = some []) (room : Room k X.A) : CallR X (.builtin "repr") (fun xs H Q => ∃ (a : Addr) (d : PyData), xs = [.ref a] ∧ Dp X.K H (.ref a) d ∧ d.showable = true ∧ d.hasDict = false ∧
    d.depth ≤ 50 ∧ d.shown.length ≤ sizeLine ∧ Q (.str d.shown) H) := by
  intro pins s σ H xs us Q I r h
  obtain ⟨a, d, rfl, hd, hs, hn, hp, hz, q⟩ := h
  obtain ⟨u, rfl, rx⟩ := vals1 r
  obtain ⟨as, rd⟩ := Dp.reads I d _ u hd rx
  cases rx
  have hu := room.units
  exact repr_of_reads' rd hs (fun z => absurd (hn.symm.trans z) Bool.false_ne_true) quiet (by omega) (fun _ _ z => z) (fun h' u tk kept => ⟨.str d.shown, H, I.kept kept, ⟨u, rfl⟩, q⟩) hz
theorem cr_repr_bl : CallR X (.builtin "repr") (fun xs H Q => ∃ b : Bool, xs = [.bl b] ∧ Q (.str (if b then "True" else "False")) H) := by
  intro pins s σ H xs us Q I r h
  obtain ⟨b, rfl, q⟩ := h
  obtain ⟨u, rfl, rx⟩ := vals1 r
  cases rx
  exact PySem.P.repr_of_bool ⟨.str _, H, I.tok _, ⟨_, rfl⟩, q⟩
end
end K3
namespace K3
open PySem PySem.Spec PyProof.Rows L2

theorem law_go {P : Program} {w : World} {K : PySem.W.Frag} {mg mb : Str → Option Value} {k : Nat} {fa a : Addr} {fd : FuncData} {x : Str} {sp : Sp} {z : Shared} {vs : List Value} {ns : List Int}
    (kin : K.In z.heap) (nsG : z.heap.Ns mainGlobals mg) (nsB : z.heap.Ns builtinsNs mb) (same : ∀ y : Str, y ≠ "__name__" → mb y = bootBuiltins y) (lim : z.heap.NoLimit) (no : z.gens = #[])
    (at_ : z.heap.get? a = some { cls := .type "list", data := .seq vs.toArray }) (intsA : IntsAre vs ns) (many : ns.length ≤ sizeLine) (room : Room k callerA)
    (F : ∀ base : Heap, K.In base → base.Ns mainGlobals mg → Gn P w K mg base k fa fd [x] sp) (bind : ∀ (s : Shared) (u : Value), BindsTo s fd ⟨[u], []⟩ [(x, u)])
    (hsp : ∀ H : Hp, SqL K H a (ns.map V.int) → sp [.ref a] H (fun v _ => v = .bl true) fun _ _ _ => False) :
    codeAny (model P w) callerA (.call (.ref fa) ⟨[.ref a], []⟩) (fun r s' => r = .ok (.ret (.bool true)) ∧ OldK z.heap s'.heap ∧ s'.os = z.os ∧ AllBare s'.gens) z := by
  have rv : Vals (ns.map V.int) vs := vals_ints intsA
  have sz : (ns.map V.int).length ≤ sizeLine := by rw [List.length_map]; exact many
  -- what is tracked: the script, unless it is the module's own
  let u : HO := .frz { cls := .type "list", data := .seq vs.toArray } (.lst (ns.map V.int))
  let H : Hp := fun b => if b = a ∧ K.lookup a = none then some u else none
  have only : ∀ b o, H b = some o → b = a ∧ K.lookup a = none ∧ o = u := fun b o e => by
    by_cases c : b = a ∧ K.lookup a = none
    · have e2 : H b = some u := if_pos c
      rw [e2] at e
      exact ⟨c.1, c.2, (Option.some.inj e).symm⟩
    · have e2 : H b = none := if_neg c
      rw [e2] at e
      cases e
  have sq : SqL K H a (ns.map V.int) := by
    cases hk : K.lookup a with
    | none => exact .inl (.inr ⟨_, if_pos ⟨rfl, hk⟩⟩)
    | some o =>
      have e := kin a o hk
      rw [at_] at e
      cases e
      exact .inr ⟨_, vs.toArray, _, hk, rfl, rfl, rfl, by rw [List.size_toArray, ← rv.length]; exact sz, by simpa using rv⟩
  have hok : HOk P w H z.heap := fun b o e => by
    obtain ⟨rfl, _, rfl⟩ := only b o e
    exact ⟨at_, sz, vs, _, rv, at_⟩
  have dictFree : ∀ {b : Addr} {o : Obj} {es : Array DictEntry} {ep : Nat}, z.heap.get? b = some o → o.data = .dict es ep → H b = none := fun {b o es ep} e d => by
    cases q : H b with
    | none => rfl
    | some v =>
      obtain ⟨rfl, _, _⟩ := only b v q
      rw [at_] at e
      cases e
      cases (show Data.seq vs.toArray _ = Data.dict es ep from d)
  have nsK : ∀ {b : Addr} {m : Str → Option Value}, z.heap.Ns b m → (hidT z.heap H).Ns b m := fun {b m} q => by
    obtain ⟨o, es, ep, e, d, r⟩ := q
    exact ⟨o, es, ep, hidT_get e (dictFree e d), d, r⟩
  have kb : K.In (hidT z.heap H) := fun b o e => by
    refine hidT_get (kin b o e) ?_
    cases q : H b with
    | none => rfl
    | some v =>
      obtain ⟨rfl, n, _⟩ := only b v q
      rw [n] at e
      cases e
  have limB : (hidT z.heap H).NoLimit := by
    obtain ⟨mc, h1, h2⟩ := lim
    exact ⟨mc, nsK h1, h2⟩
  have en : Env0 P w K mg (hidT z.heap H) callerA [] z H :=
    ⟨rfl, ⟨kb, nsK nsG, ⟨mb, nsK nsB, same⟩, limB⟩, fun _ _ e => of_hidT e, Nat.le_of_eq (hidT_size _ _), trivial, (fun b hb => absurd (show b ∈ ([] : List Addr) from hb) List.not_mem_nil), hok, .of_eq no⟩
  refine codeAny_mono ((F _ kb (nsK nsG)).go callerA [] z H ⟨[.ref a], []⟩ [.ref a] [.ref a] _ _ rfl room en (bind z (.ref a)) (.cons rfl .nil) (hsp H sq)) fun r s' h => ?_
  match r, h with
  | .error e, h => exact False.elim h
  | .ok .next, h => exact False.elim h
  | .ok .brk, h => exact False.elim h
  | .ok .cont, h => exact False.elim h
  | .ok (.ret y), h =>
    obtain ⟨v, H', os, bare, un, hok', r', q⟩ := h
    obtain rfl : v = .bl true := q
    obtain rfl : y = Value.bool true := r'
    refine ⟨rfl, OldK.of_keep fun b o e => ?_, os, bare⟩
    cases q : H b with
    | none => exact un.keep b o e q (fun y => by cases y) (fun y => by cases y)
    | some v =>
      obtain ⟨rfl, _, rfl⟩ := only b v q
      have e2 := (hok' _ _ (un.frzs _ _ _ q)).1
      rw [at_] at e
      cases e
      exact e2

theorem walk_go {l : PySem.W.OpenLaw} {n k : Nat} {q : Program} {loose : List Str} {XP : (Str → Option Value) → Heap → Prop} {YP : World → Heap → Prop} {d : DefRec} {K : Params → PySem.W.Frag} {sp : PySem.W.Frag → Sp} {x : Str}
    (most : l.most = some n) (small : n ≤ sizeLine) (nodef : d.params.defaults = []) (room : Room k callerA) (hY : ∀ (w : World) (h : Heap), YP w h → (K w.params).In h)
    (F : ∀ (w : World) (mg : Str → Option Value) (fa : Addr) (h : Heap), (K w.params).In h → h.Ns mainGlobals mg → mg d.name = some (.ref fa) →
      ∃ fd : FuncData, (∀ (s : Shared) (u : Value), BindsTo s fd ⟨[u], []⟩ [(x, u)]) ∧ ∀ base : Heap, (K w.params).In base → base.Ns mainGlobals mg →
        Gn l.prog w (K w.params) mg base k fa fd [x] (sp (K w.params)))
    (hsp : ∀ (K : PySem.W.Frag) (H : Hp) (a : Addr) (ns : List Int), ns.length ≤ n → SqL K H a (ns.map V.int) → sp K [.ref a] H (fun v _ => v = .bl true) fun _ _ _ => False) :
    PySem.W.WalkO q loose XP YP l.row.toRowW d [] (fun f vs => PySem.call f vs) := by
  refine Att.attach_call most nodef fun w s₀ s₁ mg mb fa o pm cd doc a vs ns G Y _ _ _ hmg hobj hints hlen hg => ?_
  have kin := hY w _ Y
  obtain ⟨fd, hb, hF⟩ := F w mg fa _ kin G.T.g hmg
  exact law_go kin G.T.g G.T.b G.T.builtins G.T.nolimit hg hobj hints (Nat.le_trans hlen small) room hF hb fun H hS => hsp _ H a ns hlen hS
end K3
namespace K3
open PySem PySem.Spec PyProof.Rows L2

/-! ## the text by places -/
def top (i : Nat) : Stmt := PySem.Challenge.pw_takesworks_k03_what_days_may_be.main.body.getD i (.Pass ⟨0, 0, 0, 0⟩)
abbrev sWhole : Stmt := top 4
abbrev sWithin : Stmt := top 5
abbrev sLeap : Stmt := top 11
abbrev sDaysIn : Stmt := top 12
abbrev sMakes : Stmt := top 13
abbrev sInit : Stmt := inClass (top 14) 0
abbrev sEarliest : Stmt := top 15
abbrev sLatest : Stmt := top 16
abbrev sAlike : Stmt := top 17
abbrev sMayBe : Stmt := top 18
abbrev sHand : Stmt := top 20
abbrev sTake : Stmt := top 21
abbrev sPick : Stmt := top 22
abbrev sLast : Stmt := top 23
abbrev sParts : Stmt := top 24
abbrev sOf : Stmt := top 25
abbrev sTold : Stmt := top 26
abbrev sEnds : Stmt := top 27
abbrev sBeside : Stmt := top 28
abbrev sMay : Stmt := top 29
abbrev sRight : Stmt := top 30
abbrev sLaw : Stmt := top 31

theorem scWhole : FnScope ["thing"] ["thing"] (defScope sWhole) := ⟨rfl, rfl, rfl, by decide +kernel, rfl, by decide +kernel, by decide +kernel⟩
theorem scWithin : FnScope ["thing", "least", "most"] ["thing", "least", "most"] (defScope sWithin) := ⟨rfl, rfl, rfl, by decide +kernel, rfl, by decide +kernel, by decide +kernel⟩
theorem scLeap : FnScope ["year"] ["year"] (defScope sLeap) := ⟨rfl, rfl, rfl, by decide +kernel, rfl, by decide +kernel, by decide +kernel⟩
theorem scDaysIn : FnScope ["year", "month"] ["year", "month"] (defScope sDaysIn) := ⟨rfl, rfl, rfl, by decide +kernel, rfl, by decide +kernel, by decide +kernel⟩
theorem scMakes : FnScope ["year", "month", "day"] ["year", "month", "day"] (defScope sMakes) := ⟨rfl, rfl, rfl, by decide +kernel, rfl, by decide +kernel, by decide +kernel⟩
theorem scInit : FnScope ["self", "year", "month", "day"] ["self", "year", "month", "day"] (defScope sInit) := ⟨rfl, rfl, rfl, by decide +kernel, rfl, by decide +kernel, by decide +kernel⟩
theorem scEarliest : FnScope ["day", "month"] ["day"] (defScope sEarliest) := ⟨rfl, rfl, rfl, by decide +kernel, rfl, by decide +kernel, by decide +kernel⟩
theorem scLatest : FnScope ["day", "month"] ["day"] (defScope sLatest) := ⟨rfl, rfl, rfl, by decide +kernel, rfl, by decide +kernel, by decide +kernel⟩
theorem scAlike : FnScope ["one", "other"] ["one", "other"] (defScope sAlike) := ⟨rfl, rfl, rfl, by decide +kernel, rfl, by decide +kernel, by decide +kernel⟩
theorem scMayBe : FnScope ["one", "other"] ["one", "other"] (defScope sMayBe) := ⟨rfl, rfl, rfl, by decide +kernel, rfl, by decide +kernel, by decide +kernel⟩
theorem scHand : FnScope ["_law_script", "_law_k", "_law_cell", "_law_great"] ["_law_script", "_law_k"] (defScope sHand) := ⟨rfl, rfl, rfl, by decide +kernel, rfl, by decide +kernel, by decide +kernel⟩
theorem scTake : FnScope ["_law_hand_here", "_law_many", "_law_digit", "_law_mixed"] ["_law_hand_here", "_law_many"] (defScope sTake) := ⟨rfl, rfl, rfl, by decide +kernel, rfl, by decide +kernel, by decide +kernel⟩
theorem scPick : FnScope ["_law_hand_here", "_law_some"] ["_law_hand_here", "_law_some"] (defScope sPick) := ⟨rfl, rfl, rfl, by decide +kernel, rfl, by decide +kernel, by decide +kernel⟩
theorem scLast : FnScope ["_law_y", "_law_m", "_law_fourth", "_law_hundredth"] ["_law_y", "_law_m"] (defScope sLast) := ⟨rfl, rfl, rfl, by decide +kernel, rfl, by decide +kernel, by decide +kernel⟩
theorem scParts : FnScope ["_law_hand_here", "_law_some", "_law_y", "_law_tells", "_law_m", "_law_last_here", "_law_d"] ["_law_hand_here"] (defScope sParts) := ⟨rfl, rfl, rfl, by decide +kernel, rfl, by decide +kernel, by decide +kernel⟩
theorem scOf : FnScope ["_law_parts_here"] ["_law_parts_here"] (defScope sOf) := ⟨rfl, rfl, rfl, by decide +kernel, rfl, by decide +kernel, by decide +kernel⟩
theorem scTold : FnScope ["_law_d"] ["_law_d"] (defScope sTold) := ⟨rfl, rfl, rfl, by decide +kernel, rfl, by decide +kernel, by decide +kernel⟩
theorem scEnds : FnScope ["_law_parts_here", "_law_y", "_law_m", "_law_d", "_law_first", "_law_end"] ["_law_parts_here"] (defScope sEnds) := ⟨rfl, rfl, rfl, by decide +kernel, rfl, by decide +kernel, by decide +kernel⟩
theorem scBeside : FnScope ["_law_hand_here", "_law_parts_here", "_law_y", "_law_m", "_law_d", "_law_other", "_law_some"] ["_law_hand_here", "_law_parts_here"] (defScope sBeside) := ⟨rfl, rfl, rfl, by decide +kernel, rfl, by decide +kernel, by decide +kernel⟩
theorem scMay : FnScope ["_law_one", "_law_other", "_law_mine", "_law_its"] ["_law_one", "_law_other"] (defScope sMay) := ⟨rfl, rfl, rfl, by decide +kernel, rfl, by decide +kernel, by decide +kernel⟩
theorem scRight : FnScope ["_law_hand_here", "_law_parts_here", "_law_one", "_law_ends_here", "_law_first", "_law_end", "_law_turn", "_law_near", "_law_due", "_law_other"] ["_law_hand_here"] (defScope sRight) := ⟨rfl, rfl, rfl, by decide +kernel, rfl, by decide +kernel, by decide +kernel⟩
theorem scLaw : FnScope ["_law_script", "_law_k"] ["_law_script"] (defScope sLaw) := ⟨rfl, rfl, rfl, by decide +kernel, rfl, by decide +kernel, by decide +kernel⟩

/-! ## the mathematics -/
def leap (y : Int) : Bool := decide (y % 4 = 0) && (decide (y % 100 ≠ 0) || decide (y % 400 = 0))
def lastDay (y m : Int) : Int := if m = 4 ∨ m = 6 ∨ m = 9 ∨ m = 11 then 30 else if m ≠ 2 then 31 else if leap y = true then 29 else 28
theorem lastDay_ge (y m : Int) : 28 ≤ lastDay y m ∧ lastDay y m ≤ 31 := by
  unfold lastDay
  split
  · omega
  · split
    · omega
    · split <;> omega
/-- the parts of a day -/
def Good (y : Int) (m d : Option Int) : Prop := 1 ≤ y ∧ y ≤ 9999 ∧ match m with
  | none => d = none
  | some i => 1 ≤ i ∧ i ≤ 12 ∧ match d with
    | none => True
    | some j => 1 ≤ j ∧ j ≤ lastDay y i
def oV : Option Int → V
  | none => .non
  | some i => .int i
def oD : Option Int → PyData
  | none => .none
  | some i => .int i
/-- two parts alike, or one not told -/
def uoa : Option Int → Option Int → Bool
  | some i, some j => decide (i = j)
  | _, _ => true
def mayB (y : Int) (m d : Option Int) (y' : Int) (m' d' : Option Int) : Bool := decide (y = y') && uoa m m' && uoa d d'
theorem uoa_comm (a b : Option Int) : uoa a b = uoa b a := by
  cases a <;> cases b <;> simp [uoa, eq_comm]
theorem mayB_comm (y : Int) (m d : Option Int) (y' : Int) (m' d' : Option Int) : mayB y m d y' m' d' = mayB y' m' d' y m d := by
  unfold mayB
  rw [uoa_comm m, uoa_comm d]
  simp [eq_comm]
theorem uoa_self (a : Option Int) : uoa a a = true := by cases a <;> simp [uoa]
theorem uoa_some (a : Option Int) (i : Int) : uoa a (some (a.getD i)) = true := by cases a <;> simp [uoa]

/-! ## objects -/
/-- all that was tracked stands but for the hand -/
def But (h : Addr) (H H' : Hp) : Prop := ∀ b o, b ≠ h → H b = some o → H' b = some o
theorem But.refl (h : Addr) (H : Hp) : But h H H := fun _ _ _ e => e
theorem But.trans {h : Addr} {H H1 H2 : Hp} (p : But h H H1) (q : But h H1 H2) : But h H H2 := fun b o n e => q b o n (p b o n e)
theorem Same.but {H H' : Hp} (s : Same H H') (h : Addr) : But h H H' := fun b o _ e => s b o e
theorem But.seqT {K : PySem.W.Frag} {h : Addr} {H H' : Hp} (s : But h H H') {t : Addr} {xs : List V} (n : t ≠ h) (q : SqT K H t xs) : SqT K H' t xs := by
  rcases q with (q | ⟨o, q⟩) | q
  · exact .inl (.inl (s _ _ n q))
  · exact .inl (.inr ⟨o, s _ _ n q⟩)
  · exact .inr q
theorem But.seqL {K : PySem.W.Frag} {h : Addr} {H H' : Hp} (s : But h H H') {t : Addr} {xs : List V} (n : t ≠ h) (q : SqL K H t xs) : SqL K H' t xs := by
  rcases q with (q | ⟨o, q⟩) | q
  · exact .inl (.inl (s _ _ n q))
  · exact .inl (.inr ⟨o, s _ _ n q⟩)
  · exact .inr q
theorem Same.seqT {K : PySem.W.Frag} {H H' : Hp} (s : Same H H') {t : Addr} {xs : List V} (q : SqT K H t xs) : SqT K H' t xs := by
  rcases q with (q | ⟨o, q⟩) | q
  · exact .inl (.inl (s _ _ q))
  · exact .inl (.inr ⟨o, s _ _ q⟩)
  · exact .inr q
theorem same_upd {H : Hp} {p : Addr} {o : HO} (h : H p = none) : Same H (upd H p o) := fun b x e => by
  rw [upd_ne (ne_of_none e h)]
  exact e
theorem but_upd {H : Hp} {p : Addr} {o : HO} : But p H (upd H p o) := fun b x n e => by
  rw [upd_ne n]
  exact e
/-- the hand: what is left of the cell, what it is mixed of, how often it was asked -/
def Hand (n : Int) (H : Hp) (a : Addr) : Prop := ∃ g m c : Int, H a = some (.lst [.int g, .int m, .int c]) ∧ 0 ≤ g ∧ 0 ≤ m ∧ m < 2305843009213693951 ∧ 0 ≤ c ∧ c ≤ n
theorem Hand.mono {n n' : Int} {H : Hp} {a : Addr} (h : Hand n H a) (l : n ≤ n') : Hand n' H a := by
  obtain ⟨g, m, c, e, h1, h2, h3, h4, h5⟩ := h
  exact ⟨g, m, c, e, h1, h2, h3, h4, Int.le_trans h5 l⟩
theorem Hand.same {n : Int} {H H' : Hp} {a : Addr} (h : Hand n H a) (s : Same H H') : Hand n H' a := by
  obtain ⟨g, m, c, e, r⟩ := h
  exact ⟨g, m, c, s _ _ e, r⟩
theorem Hand.at_ {n : Int} {H : Hp} {a : Addr} (h : Hand n H a) : ∃ xs, H a = some (.lst xs) := by
  obtain ⟨g, m, c, e, r⟩ := h
  exact ⟨_, e⟩
theorem Hand.ne_tup {K : PySem.W.Frag} {n : Int} {H : Hp} {a t : Addr} {xs : List V} (h : Hand n H a) (e : H t = some (.tup xs)) : t ≠ a := by
  obtain ⟨ys, e2⟩ := h.at_
  exact ne_of e e2 (by intro z; cases z)
/-- the fields of a Day -/
def dayF (y : Int) (m d : Option Int) : List (Str × V) := [("year", .int y), ("month", oV m), ("day", oV d)]
def DayAt (C : Addr) (H : Hp) (x : Addr) (y : Int) (m d : Option Int) : Prop := ∃ dx, H x = some (.ins C dx (dayF y m d))
theorem DayAt.same {C : Addr} {H H' : Hp} {x : Addr} {y : Int} {m d : Option Int} (h : DayAt C H x y m d) (s : Same H H') : DayAt C H' x y m d := by
  obtain ⟨dx, e⟩ := h
  exact ⟨dx, s _ _ e⟩
theorem DayAt.but {C h : Addr} {n : Int} {H H' : Hp} {x : Addr} {y : Int} {m d : Option Int} (q : DayAt C H x y m d) (hh : Hand n H h) (s : But h H H') : DayAt C H' x y m d := by
  obtain ⟨dx, e⟩ := q
  obtain ⟨ys, e2⟩ := hh.at_
  exact ⟨dx, s _ _ (ne_of e e2 (by intro z; cases z)) e⟩
theorem f_y (y : Int) (m d : Option Int) : (dayF y m d).lookup ("year" : Str) = some (.int y) := by
  unfold dayF
  rw [List.lookup_cons_self]
theorem f_m (y : Int) (m d : Option Int) : (dayF y m d).lookup ("month" : Str) = some (oV m) := by
  unfold dayF
  rw [List.lookup_cons, show (("month" : Str) == "year") = false by decide +kernel, List.lookup_cons_self]
theorem f_d (y : Int) (m d : Option Int) : (dayF y m d).lookup ("day" : Str) = some (oV d) := by
  unfold dayF
  rw [List.lookup_cons, show (("day" : Str) == "year") = false by decide +kernel, List.lookup_cons, show (("day" : Str) == "month") = false by decide +kernel, List.lookup_cons_self]
end K3
namespace K3
open PySem PySem.Spec PyProof.Rows L2

/-- a def that may be called by its name -/
structure Ca (P : Program) (w : World) (K : PySem.W.Frag) (mg : Str → Option Value) (base : Heap) (k : Nat) (x : Str) (ps : List Str) (sp : Sp) : Prop where
  ex : ∃ (f : Addr) (fd : FuncData), FnOk P w K mg base CX0 k f fd ps sp ∧ mg x = some (.ref f) ∧ PySem.W.keepIn K (.ref f) = true ∧ Binds K fd ps []
/-- a def of the text, as the head finds it -/
structure Df (K : PySem.W.Frag) (mg : Str → Option Value) (x : Str) (ps : List Str) (st : Stmt) (f : Addr) (fd : FuncData) : Prop where
  fn : Fun K x x st f fd
  mgf : mg x = some (.ref f)
  bd : Binds K fd ps []
theorem Df.ca {P : Program} {w : World} {K : PySem.W.Frag} {mg : Str → Option Value} {base : Heap} {k : Nat} {x : Str} {ps : List Str} {st : Stmt} {f : Addr} {fd : FuncData} {sp : Sp} (d : Df K mg x ps st f fd)
    (h : FnOk P w K mg base CX0 k f fd ps sp) : Ca P w K mg base k x ps sp := ⟨f, fd, h, d.mgf, d.fn.kp, d.bd⟩
section
variable {X : Cx} {k j : Nat} {x : Str} {ps : List Str} {sp : Sp} {p pos : Pos} {e : Expr} {es : List Expr} {t : TA}
theorem pe_ca (c : Ca X.prog X.w X.K X.mg X.base k x ps sp) (hr : Room j X.A) (hk : k ≤ j) (hg : Gl X x) (ha : PA X (e :: es) t) (hdb : (x == ("__debug__" : Str)) = false := by decide)
    (he : starEach (e :: es) X.env = (false, eval e X.env) :: starEach es X.env := by rfl) (hpl : (backTo pos (starEach es X.env)).any (·.1) = false := by rfl) :
    PE X (.Call (.Name x p) (e :: es) [] pos) (tCall sp [] E0 t) := by
  obtain ⟨f, fd, F, hm, kp, b⟩ := c.ex
  exact pe_call F (hr.mono hk) hg hm kp b .nil pass0 ha hdb he hpl
end

/-- what the top has left, besides the defs -/
structure Txt (K : PySem.W.Frag) (mg : Str → Option Value) (C : Addr) : Prop where
  cl : Cls K C
  nY : NoAttr K C "year"
  nM : NoAttr K C "month"
  nD : NoAttr K C "day"
  mgC : mg "Day" = some (.ref C)
  ins : C8.InsC K C
  yr : ∃ t, mg "LAST_YEAR" = some (.int 9999 t)
  mo : ∃ t, mg "MONTHS" = some (.int 12 t)
  fe : ∃ t, mg "FEBRUARY" = some (.int 2 t)
  md : ∃ a, mg "MONTH_DAYS" = some (.ref a) ∧ ∀ H, SqT K H a ([31, 28, 31, 30, 31, 30, 31, 31, 30, 31, 30, 31].map V.int)
  isi : mg "isinstance" = none
  int : mg "int" = none
  bool : mg "bool" = none
  len : mg "len" = none
  abs : mg "abs" = none
  max : mg "max" = none
  min : mg "min" = none
  all : mg "all" = none
  zip : mg "zip" = none
  range : mg "range" = none
  repr : mg "repr" = none

/-! ## promises of the program's defs -/
def spWhole : Sp := fun vs H Q _ => ∃ i : Int, vs = [.int i] ∧ Q (.bl true) H
def spWithin : Sp := fun vs H Q _ => ∃ i a b : Int, vs = [.int i, .int a, .int b] ∧ a ≤ i ∧ i ≤ b ∧ Q (.bl true) H
def spLeap : Sp := fun vs H Q _ => ∃ y : Int, vs = [.int y] ∧ Q (.bl (leap y)) H
def spDaysIn : Sp := fun vs H Q _ => ∃ y m : Int, vs = [.int y, .int m] ∧ 1 ≤ m ∧ m ≤ 12 ∧ Q (.int (lastDay y m)) H
def spMakes : Sp := fun vs H Q _ => ∃ (y : Int) (m d : Option Int), vs = [.int y, oV m, oV d] ∧ Good y m d ∧ Q (.bl true) H
def spInit (C : Addr) : Sp := fun vs H Q _ => ∃ (x dx : Addr) (y : Int) (m d : Option Int), vs = [.ref x, .int y, oV m, oV d] ∧ Good y m d ∧ H x = some (.ins C dx []) ∧
  ∀ H' : Hp, (∀ b o, H b = some o → b ≠ x → H' b = some o) → DayAt C H' x y m d → Q .non H'
/-- a new Day -/
def spEarliest (C : Addr) : Sp := fun vs H Q _ => ∃ (a : Addr) (y : Int) (m d : Option Int), vs = [.ref a] ∧ DayAt C H a y m d ∧ Good y m d ∧
  ∀ H' x, Same H H' → DayAt C H' x y (some (m.getD 1)) (some (d.getD 1)) → Q (.ref x) H'
def spLatest (C : Addr) : Sp := fun vs H Q _ => ∃ (a : Addr) (y : Int) (m d : Option Int), vs = [.ref a] ∧ DayAt C H a y m d ∧ Good y m d ∧
  ∀ H' x, Same H H' → DayAt C H' x y (some (m.getD 12)) (some (d.getD (lastDay y (m.getD 12)))) → Q (.ref x) H'
def spAlike : Sp := fun vs H Q _ => ∃ a b : Option Int, vs = [oV a, oV b] ∧ Q (.bl (uoa a b)) H
def spMayBe (C : Addr) : Sp := fun vs H Q _ => ∃ (a b : Addr) (y : Int) (m d : Option Int) (y' : Int) (m' d' : Option Int), vs = [.ref a, .ref b] ∧ DayAt C H a y m d ∧ DayAt C H b y' m' d' ∧ Q (.bl (mayB y m d y' m' d')) H

section
variable {P : Program} {w : World} {K : PySem.W.Frag} {mg : Str → Option Value} {base : Heap} {C : Addr}

theorem ok_whole {f : Addr} {fd : FuncData} (D : Df K mg "is_whole" ["thing"] sWhole f fd) (T : Txt K mg C) : FnOk P w K mg base CX0 1 f fd ["thing"] spWhole := by
  refine D.fn.ok scWhole (fun vs H Q E h => ?_) (fun cdv A outer s H vs Q E hr h => ?_)
  · obtain ⟨i, rfl, _⟩ := h
    rfl
  · obtain ⟨i, rfl, q⟩ := h
    refine ⟨_, pss_one (ps_ret (pe_and (pe_callB call_isi (by rfl) T.isi (by decide +kernel) (pa_cons (pv 0) (pa_cons (pe_bltn (v := .ty "int") (by rfl) T.int (by decide +kernel) rfl) pa_nil)))
      (pe_one (pe_not (pe_callB call_isi (by rfl) T.isi (by decide +kernel) (pa_cons (pv 0) (pa_cons (pe_bltn (v := .ty "bool") (by rfl) T.bool (by decide +kernel) rfl) pa_nil))))))), ?_⟩
    refine ⟨_, rfl, _, _, _, _, true, rfl, .ty _, .base (.int i), kit_ty (by decide +kernel), true, rfl, iteT ?_⟩
    refine ⟨_, rfl, _, _, _, _, false, rfl, .ty _, .base (.int i), kit_ty (by decide +kernel), false, rfl, q⟩

theorem ok_within {f : Addr} {fd : FuncData} (D : Df K mg "is_within" ["thing", "least", "most"] sWithin f fd) (T : Txt K mg C) (cW : Ca P w K mg base 1 "is_whole" ["thing"] spWhole) :
    FnOk P w K mg base CX0 2 f fd ["thing", "least", "most"] spWithin := by
  refine D.fn.ok scWithin (fun vs H Q E h => ?_) (fun cdv A outer s H vs Q E hr h => ?_)
  · obtain ⟨i, a, b, rfl, _⟩ := h
    rfl
  · obtain ⟨i, a, b, rfl, h1, h2, q⟩ := h
    refine ⟨_, pss_one (ps_ret (pe_and (pe_ca cW hr (by decide) (by rfl) (pa_cons (pv 0) pa_nil)) (pe_one (pe_chain op_le op_le (pv 1) (pv 0) (pv 2))))), ?_⟩
    refine ⟨_, rfl, i, rfl, true, rfl, iteT ?_⟩
    refine ⟨_, rfl, _, rfl, a, i, rfl, rfl, _, rfl, ?_⟩
    rw [decide_eq_true h1]
    refine iteT ⟨_, rfl, i, b, rfl, rfl, ?_⟩
    show Q (V.bl (decide (i ≤ b))) H
    rw [decide_eq_true h2]
    exact q

theorem ok_leap {f : Addr} {fd : FuncData} (D : Df K mg "is_leap" ["year"] sLeap f fd) : FnOk P w K mg base CX0 1 f fd ["year"] spLeap := by
  refine D.fn.ok scLeap (fun vs H Q E h => ?_) (fun cdv A outer s H vs Q E hr h => ?_)
  · obtain ⟨y, rfl, _⟩ := h
    rfl
  · obtain ⟨y, rfl, q⟩ := h
    refine ⟨_, pss_one (ps_ret (pe_and (pe_cmpR op_eq (pe_op op_mod (pv 0) pe_int) pe_int (nomark _))
      (pe_one (pe_or (pe_cmpR op_ne (pe_op op_mod (pv 0) pe_int) pe_int (nomark _)) (pe_one (pe_cmpR op_eq (pe_op op_mod (pv 0) pe_int) pe_int (nomark _))))))), ?_⟩
    have e4 : decide (V.int (y % 4) = V.int 0) = decide (y % 4 = 0) := decide_eq_decide.mpr ⟨fun z => V.int.inj z, fun z => by rw [z]⟩
    have e1 : decide (V.int (y % 100) = V.int 0) = decide (y % 100 = 0) := decide_eq_decide.mpr ⟨fun z => V.int.inj z, fun z => by rw [z]⟩
    have e0 : decide (V.int (y % 400) = V.int 0) = decide (y % 400 = 0) := decide_eq_decide.mpr ⟨fun z => V.int.inj z, fun z => by rw [z]⟩
    refine ⟨_, rfl, y, 4, rfl, rfl, (by show (0 : Int) < 4; decide), rfl, _, rfl, ?_⟩
    rw [e4]
    refine ite2 (fun c4 => ?_) (fun c4 => ?_)
    · refine ⟨_, rfl, y, 100, rfl, rfl, (by show (0 : Int) < 100; decide), rfl, _, rfl, ?_⟩
      rw [e1]
      refine ite2 (fun c1 => ?_) (fun c1 => ?_)
      · have z : leap y = true := by
          have a := of_decide_eq_true c4
          have b : ¬ y % 100 = 0 := by simpa using c1
          unfold leap
          simp [a, b]
        rw [z] at q
        exact q
      · refine ⟨_, rfl, y, 400, rfl, rfl, (by show (0 : Int) < 400; decide), rfl, ?_⟩
        rw [e0]
        have z : leap y = decide (y % 400 = 0) := by
          have a := of_decide_eq_true c4
          have b : y % 100 = 0 := by simpa using c1
          unfold leap
          simp [a, b]
        rw [z] at q
        exact q
    · have z : leap y = false := by
        have a : ¬ y % 4 = 0 := by simpa using c4
        unfold leap
        simp [a]
      rw [z] at q
      exact q
end
end K3
namespace K3
open PySem PySem.Spec PyProof.Rows L2
section
variable {P : Program} {w : World} {K : PySem.W.Frag} {mg : Str → Option Value} {base : Heap} {C : Addr}

theorem dInt (i j : Int) : decide (V.int i = V.int j) = decide (i = j) := decide_eq_decide.mpr ⟨fun z => V.int.inj z, fun z => by rw [z]⟩

theorem month_at (y m : Int) (h1 : 1 ≤ m) (h2 : m ≤ 12) (n : ¬ (m = 2 ∧ leap y = true)) :
    atI ([31, 28, 31, 30, 31, 30, 31, 31, 30, 31, 30, 31].map V.int) (m - 1) = some (.int (lastDay y m)) := by
  obtain ⟨j, rfl⟩ : ∃ j : Nat, m = (j : Int) + 1 := ⟨(m - 1).toNat, by omega⟩
  have hj : j < 12 := by omega
  rw [show (j : Int) + 1 - 1 = (j : Int) by omega]
  refine atI_nat ?_
  match j, hj with
  | 0, _ => simp [lastDay]
  | 1, _ =>
    have l : ¬ leap y = true := fun z => n ⟨by decide, z⟩
    simp [lastDay, l]
  | 2, _ => simp [lastDay]
  | 3, _ => simp [lastDay]
  | 4, _ => simp [lastDay]
  | 5, _ => simp [lastDay]
  | 6, _ => simp [lastDay]
  | 7, _ => simp [lastDay]
  | 8, _ => simp [lastDay]
  | 9, _ => simp [lastDay]
  | 10, _ => simp [lastDay]
  | 11, _ => simp [lastDay]

theorem ok_daysIn {f : Addr} {fd : FuncData} (D : Df K mg "days_in" ["year", "month"] sDaysIn f fd) (T : Txt K mg C) (cL : Ca P w K mg base 1 "is_leap" ["year"] spLeap) :
    FnOk P w K mg base CX0 2 f fd ["year", "month"] spDaysIn := by
  obtain ⟨tF, gF⟩ := T.fe
  obtain ⟨aM, gM, sM⟩ := T.md
  refine D.fn.ok scDaysIn (fun vs H Q E h => ?_) (fun cdv A outer s H vs Q E hr h => ?_)
  · obtain ⟨y, m, rfl, _⟩ := h
    rfl
  · obtain ⟨y, m, rfl, h1, h2, q⟩ := h
    refine ⟨_, pss_cons (ps_if (PW.pt (pw_and (pt_cmpR op_eq (pv 1) (pe_glob (v := .int 2) (by rfl) gF ⟨_, rfl⟩) (nomark _)) (pw_and1 (pt_val (pe_ca cL hr (by decide) (by rfl) (pa_cons (pv 0) pa_nil))))))
      (pss_one (ps_ret pe_int)) pss_nil)
      (pss_one (ps_ret (pe_ix ix_tup (pe_glob (v := .ref aM) (by rfl) gM rfl) (pe_op op_sub (pv 1) pe_int) (fun _ _ => rfl)))), ?_⟩
    refine ⟨_, rfl, rfl, _, rfl, ?_⟩
    rw [dInt]
    refine ite2 (fun c => ?_) (fun c => ?_)
    · have em : m = 2 := of_decide_eq_true c
      refine ⟨_, rfl, y, rfl, _, rfl, ?_⟩
      cases l : leap y with
      | true =>
        have z : lastDay y m = 29 := by
          rw [em]
          simp [lastDay, l]
        rw [z] at q
        exact iteT q
      | false => exact iteF ⟨_, rfl, m, 1, rfl, rfl, aM, _, m - 1, _, rfl, rfl, sM H, month_at y m h1 h2 (fun z => by rw [l] at z; cases z.2), q⟩
    · exact iteF ⟨_, rfl, m, 1, rfl, rfl, aM, _, m - 1, _, rfl, rfl, sM H, month_at y m h1 h2 (fun z => c (decide_eq_true z.1)), q⟩

theorem ok_makes {f : Addr} {fd : FuncData} (D : Df K mg "makes_day" ["year", "month", "day"] sMakes f fd) (T : Txt K mg C) (cW : Ca P w K mg base 2 "is_within" ["thing", "least", "most"] spWithin)
    (cD : Ca P w K mg base 2 "days_in" ["year", "month"] spDaysIn) : FnOk P w K mg base CX0 3 f fd ["year", "month", "day"] spMakes := by
  obtain ⟨tY, gY⟩ := T.yr
  obtain ⟨tM, gM⟩ := T.mo
  refine D.fn.ok scMakes (fun vs H Q E h => ?_) (fun cdv A outer s H vs Q E hr h => ?_)
  · obtain ⟨y, m, d, rfl, _⟩ := h
    rfl
  · obtain ⟨y, m, d, rfl, ⟨g1, g2, g3⟩, q⟩ := h
    refine ⟨_, pss_cons (ps_if (pt_not (pt_val (pe_ca cW hr (by decide) (by rfl) (pa_cons (pv 0) (pa_cons pe_int (pa_cons (pe_glob (v := .int 9999) (by rfl) gY ⟨_, rfl⟩) pa_nil)))))) (pss_one (ps_ret pe_bl)) pss_nil)
      (pss_cons (ps_if (pt_cmpR op_isN (pv 1) pe_non (nomark _)) (pss_one (ps_ret (pe_cmpR op_isN (pv 2) pe_non (nomark _)))) pss_nil)
      (pss_cons (ps_if (pt_not (pt_val (pe_ca cW hr (by decide) (by rfl) (pa_cons (pv 1) (pa_cons pe_int (pa_cons (pe_glob (v := .int 12) (by rfl) gM ⟨_, rfl⟩) pa_nil)))))) (pss_one (ps_ret pe_bl)) pss_nil)
      (pss_one (ps_ret (pe_or (pe_cmpR op_isN (pv 2) pe_non (nomark _))
        (pe_one (pe_ca cW hr (by decide) (by rfl) (pa_cons (pv 2) (pa_cons pe_int (pa_cons (pe_ca cD hr (by decide) (by rfl) (pa_cons (pv 0) (pa_cons (pv 1) pa_nil))) pa_nil)))))))))), ?_⟩
    refine ⟨_, rfl, y, 1, 9999, rfl, g1, g2, true, rfl, iteF ?_⟩
    cases m with
    | none =>
      have ed : d = none := g3
      subst ed
      refine ⟨_, rfl, rfl, _, rfl, iteT ?_⟩
      exact ⟨_, rfl, rfl, q⟩
    | some i =>
      obtain ⟨g4, g5, g6⟩ := g3
      refine ⟨_, rfl, rfl, _, rfl, iteF ?_⟩
      refine ⟨_, rfl, i, 1, 12, rfl, g4, g5, true, rfl, iteF ?_⟩
      cases d with
      | none => exact ⟨_, rfl, rfl, true, rfl, iteT q⟩
      | some j =>
        obtain ⟨g7, g8⟩ := g6
        refine ⟨_, rfl, rfl, false, rfl, iteF ?_⟩
        exact ⟨_, rfl, _, rfl, _, rfl, y, i, rfl, g4, g5, j, 1, lastDay y i, rfl, g7, g8, q⟩

theorem put3 (y : Int) (m d : Option Int) : putF "day" (oV d) (putF "month" (oV m) (putF "year" (.int y) [])) = dayF y m d := by
  show (if ("year" : Str) = "day" then _ else _) = _
  rw [if_neg (by decide +kernel)]
  rfl
end
end K3
namespace K3
open PySem PySem.Spec PyProof.Rows L2
/-- a class that may be made by its name with all its values -/
structure Ma (P : Program) (w : World) (K : PySem.W.Frag) (mg : Str → Option Value) (base : Heap) (k : Nat) (x : Str) (C : Addr) (ps : List Str) (sp : Sp) : Prop where
  ex : ∃ (f : Addr) (fd : FuncData), Mk K C f ∧ FnOk P w K mg base CX0 k f fd ps sp ∧ mg x = some (.ref C) ∧ Binds K fd ps []
section
variable {X : Cx} {k j : Nat} {C : Addr} {x : Str} {ps : List Str} {sp : Sp} {p pos : Pos} {e : Expr} {es : List Expr} {t : TA}
theorem pe_ma (c : Ma X.prog X.w X.K X.mg X.base k x C ps sp) (hr : Room j X.A) (hk : k + 1 ≤ j) (hg : Gl X x) (ha : PA X (e :: es) t) (hdb : (x == ("__debug__" : Str)) = false := by decide)
    (he : starEach (e :: es) X.env = (false, eval e X.env) :: starEach es X.env := by rfl) (hpl : (backTo pos (starEach es X.env)).any (·.1) = false := by rfl) :
    PE X (.Call (.Name x p) (e :: es) [] pos) (tMake C sp [] E0 t) := by
  obtain ⟨f, fd, M, F, hm, b⟩ := c.ex
  exact pe_make M F (hr.mono hk) hg hm b .nil pass0 ha hdb he hpl
end
section
variable {P : Program} {w : World} {K : PySem.W.Frag} {mg : Str → Option Value} {base : Heap} {C : Addr}
theorem ok_init {f : Addr} {fd : FuncData} (F : FunD K "__init__" "Day.__init__" (defArgs sInit) (defBody sInit) (defScope sInit) [.non, .non] [] f fd) (T : Txt K mg C) (cM : Ca P w K mg base 3 "makes_day" ["year", "month", "day"] spMakes) :
    FnOk P w K mg base CX0 4 f fd ["self", "year", "month", "day"] (spInit C) := by
  refine F.ok scInit (fun vs H Q E h => ?_) (fun cdv A outer s H vs Q E hr h => ?_)
  · obtain ⟨x, dx, y, m, d, rfl, _⟩ := h
    rfl
  · obtain ⟨x, dx, y, m, d, rfl, g, hx, q⟩ := h
    refine ⟨_, PSs.nox (pss_cons (ps_if (pt_not (pt_val (pe_ca cM hr (by decide) (by rfl) (pa_cons (pv 1) (pa_cons (pv 2) (pa_cons (pv 3) pa_nil)))))) (pss_one ps_never) pss_nil)
      (pss_cons (ps_fld (pv 0) (pv 1) rfl) (pss_cons (ps_fld (pv 0) (pv 2) rfl) (pss_one (ps_fld (pv 0) (pv 3) rfl))))), ?_⟩
    refine ⟨_, rfl, _, rfl, _, rfl, y, m, d, rfl, g, true, rfl, iteF ?_⟩
    refine ⟨_, rfl, _, rfl, x, C, dx, [], rfl, hx, T.cl, T.nY, (by decide), ?_⟩
    refine ⟨_, rfl, _, rfl, x, C, dx, _, rfl, upd_same, T.cl, T.nM, (by show 1 < 1000; decide), ?_⟩
    refine ⟨_, rfl, _, rfl, x, C, dx, _, rfl, upd_same, T.cl, T.nD, ?_, ?_⟩
    · show (putF "month" (oV m) [(("year" : Str), V.int y)]).length < 1000
      unfold putF
      split <;> simp [putF]
    · rw [upd_upd, upd_upd]
      refine q _ (fun b o e n => by rw [upd_ne n]; exact e) ⟨dx, ?_⟩
      rw [upd_same]
      exact congrArg (fun z => some (HO.ins C dx z)) (put3 y m d)

theorem init_binds {f : Addr} {fd : FuncData} (F : FunD K "__init__" "Day.__init__" (defArgs sInit) (defBody sInit) (defScope sInit) [.non, .non] [] f fd) : Binds K fd ["self", "year", "month", "day"] [] := by
  obtain ⟨ds, r, b⟩ := F.binds1 (ps := ["self", "year", "month", "day"]) 4 2 (by simp) rfl fun T kV doc pm an cdv ct us its h1 h2 => by
    match us, its, h1, h2 with
    | [_, _, _, _], [_, _], _, _ => exact ⟨_, rfl, rfl⟩
  cases r
  exact b
/-- what making a Day asks and leaves -/
theorem made {H : Hp} {x dx : Addr} (n1 : H x = none) (n2 : H dx = none) {H' : Hp} (k : ∀ b o, (upd (upd H dx (.own x)) x (.ins C dx [])) b = some o → b ≠ x → H' b = some o) : Same H H' := Same.made n1 n2 k

theorem ok_earliest {f : Addr} {fd : FuncData} (D : Df K mg "earliest" ["day"] sEarliest f fd) (T : Txt K mg C) (mD : Ma P w K mg base 4 "Day" C ["self", "year", "month", "day"] (spInit C)) :
    FnOk P w K mg base CX0 6 f fd ["day"] (spEarliest C) := by
  refine D.fn.ok scEarliest (fun vs H Q E h => ?_) (fun cdv A outer s H vs Q E hr h => ?_)
  · obtain ⟨a, y, m, d, rfl, _⟩ := h
    rfl
  · obtain ⟨a, y, m, d, rfl, ⟨dx, ha⟩, g, q⟩ := h
    refine ⟨_, pss_cons (ps_set (i := 1) scEarliest.nd rfl (.inl rfl) (pe_ifExp (pt_cmpR op_isN (pe_fld (pv 0) rfl) pe_non (nomark _)) pe_int (pe_fld (pv 0) rfl)))
      (pss_one (ps_ret (pe_ma mD hr (by decide) (by rfl) (pa_cons (pe_fld (pv 0) rfl) (pa_cons (pv 1) (pa_cons (pe_ifExp (pt_cmpR op_isN (pe_fld (pv 0) rfl) pe_non (nomark _)) pe_int (pe_fld (pv 0) rfl)) pa_nil)))))), ?_⟩
    obtain ⟨g1, g2, g3⟩ := g
    have fin : ∀ x e : Addr, H x = none → H e = none → e ≠ x → Good y (some (m.getD 1)) (some (d.getD 1)) → spInit C [.ref x, .int y, .int (m.getD 1), .int (d.getD 1)] (upd (upd H e (.own x)) x (.ins C e [])) (fun v H2 => v = .non ∧ Q (.ref x) H2) E0 :=
      fun x e n1 n2 n3 gg => ⟨x, e, y, some (m.getD 1), some (d.getD 1), rfl, gg, upd_same, fun H' k dd => ⟨rfl, q H' x (made n1 n2 k) dd⟩⟩
    cases m with
    | none =>
      have ed : d = none := g3
      subst ed
      refine ⟨_, rfl, a, C, dx, _, _, rfl, ha, T.cl, T.nM, f_m _ _ _, rfl, _, rfl, iteT ?_⟩
      refine ⟨_, rfl, a, C, dx, _, _, rfl, ha, T.cl, T.nY, f_y _ _ _, _, rfl, _, rfl, a, C, dx, _, _, rfl, ha, T.cl, T.nD, f_d _ _ _, rfl, _, rfl, iteT ?_⟩
      exact fun x e n1 n2 n3 => fin x e n1 n2 n3 ⟨g1, g2, by decide, by decide, by decide, by have := lastDay_ge y 1; show (1 : Int) ≤ lastDay y 1; omega⟩
    | some i =>
      obtain ⟨g4, g5, g6⟩ := g3
      refine ⟨_, rfl, a, C, dx, _, _, rfl, ha, T.cl, T.nM, f_m _ _ _, rfl, _, rfl, iteF ?_⟩
      refine ⟨_, rfl, a, C, dx, _, _, rfl, ha, T.cl, T.nM, f_m _ _ _, ?_⟩
      refine ⟨_, rfl, a, C, dx, _, _, rfl, ha, T.cl, T.nY, f_y _ _ _, _, rfl, _, rfl, a, C, dx, _, _, rfl, ha, T.cl, T.nD, f_d _ _ _, rfl, _, rfl, ?_⟩
      cases d with
      | none => exact iteT fun x e n1 n2 n3 => fin x e n1 n2 n3 ⟨g1, g2, g4, g5, by decide, by have := lastDay_ge y i; show (1 : Int) ≤ lastDay y i; omega⟩
      | some j =>
        refine iteF ⟨_, rfl, a, C, dx, _, _, rfl, ha, T.cl, T.nD, f_d _ _ _, ?_⟩
        exact fun x e n1 n2 n3 => fin x e n1 n2 n3 ⟨g1, g2, g4, g5, g6⟩

theorem ok_latest {f : Addr} {fd : FuncData} (D : Df K mg "latest" ["day"] sLatest f fd) (T : Txt K mg C) (mD : Ma P w K mg base 4 "Day" C ["self", "year", "month", "day"] (spInit C))
    (cD : Ca P w K mg base 2 "days_in" ["year", "month"] spDaysIn) : FnOk P w K mg base CX0 6 f fd ["day"] (spLatest C) := by
  obtain ⟨tM, gM⟩ := T.mo
  refine D.fn.ok scLatest (fun vs H Q E h => ?_) (fun cdv A outer s H vs Q E hr h => ?_)
  · obtain ⟨a, y, m, d, rfl, _⟩ := h
    rfl
  · obtain ⟨a, y, m, d, rfl, ⟨dx, ha⟩, g, q⟩ := h
    refine ⟨_, pss_cons (ps_set (i := 1) scLatest.nd rfl (.inl rfl) (pe_ifExp (pt_cmpR op_isN (pe_fld (pv 0) rfl) pe_non (nomark _)) (pe_glob (v := .int 12) (by rfl) gM ⟨_, rfl⟩) (pe_fld (pv 0) rfl)))
      (pss_one (ps_ret (pe_ma mD hr (by decide) (by rfl) (pa_cons (pe_fld (pv 0) rfl) (pa_cons (pv 1) (pa_cons (pe_ifExp (pt_cmpR op_isN (pe_fld (pv 0) rfl) pe_non (nomark _))
        (pe_ca cD hr (by decide) (by rfl) (pa_cons (pe_fld (pv 0) rfl) (pa_cons (pv 1) pa_nil))) (pe_fld (pv 0) rfl)) pa_nil)))))), ?_⟩
    obtain ⟨g1, g2, g3⟩ := g
    have fin : ∀ x e : Addr, H x = none → H e = none → e ≠ x → Good y (some (m.getD 12)) (some (d.getD (lastDay y (m.getD 12)))) →
        spInit C [.ref x, .int y, .int (m.getD 12), .int (d.getD (lastDay y (m.getD 12)))] (upd (upd H e (.own x)) x (.ins C e [])) (fun v H2 => v = .non ∧ Q (.ref x) H2) E0 :=
      fun x e n1 n2 n3 gg => ⟨x, e, y, some _, some _, rfl, gg, upd_same, fun H' k dd => ⟨rfl, q H' x (made n1 n2 k) dd⟩⟩
    cases m with
    | none =>
      have ed : d = none := g3
      subst ed
      refine ⟨_, rfl, a, C, dx, _, _, rfl, ha, T.cl, T.nM, f_m _ _ _, rfl, _, rfl, iteT ?_⟩
      refine ⟨_, rfl, a, C, dx, _, _, rfl, ha, T.cl, T.nY, f_y _ _ _, _, rfl, _, rfl, a, C, dx, _, _, rfl, ha, T.cl, T.nD, f_d _ _ _, rfl, _, rfl, iteT ?_⟩
      refine ⟨_, rfl, a, C, dx, _, _, rfl, ha, T.cl, T.nY, f_y _ _ _, _, rfl, y, 12, rfl, by decide, by decide, ?_⟩
      exact fun x e n1 n2 n3 => fin x e n1 n2 n3 ⟨g1, g2, by decide, by decide, by have := lastDay_ge y 12; show (1 : Int) ≤ lastDay y 12; omega, Int.le_refl _⟩
    | some i =>
      obtain ⟨g4, g5, g6⟩ := g3
      refine ⟨_, rfl, a, C, dx, _, _, rfl, ha, T.cl, T.nM, f_m _ _ _, rfl, _, rfl, iteF ?_⟩
      refine ⟨_, rfl, a, C, dx, _, _, rfl, ha, T.cl, T.nM, f_m _ _ _, ?_⟩
      refine ⟨_, rfl, a, C, dx, _, _, rfl, ha, T.cl, T.nY, f_y _ _ _, _, rfl, _, rfl, a, C, dx, _, _, rfl, ha, T.cl, T.nD, f_d _ _ _, rfl, _, rfl, ?_⟩
      cases d with
      | none =>
        refine iteT ⟨_, rfl, a, C, dx, _, _, rfl, ha, T.cl, T.nY, f_y _ _ _, _, rfl, y, i, rfl, g4, g5, ?_⟩
        exact fun x e n1 n2 n3 => fin x e n1 n2 n3 ⟨g1, g2, g4, g5, by have := lastDay_ge y i; show (1 : Int) ≤ lastDay y i; omega, Int.le_refl _⟩
      | some j =>
        refine iteF ⟨_, rfl, a, C, dx, _, _, rfl, ha, T.cl, T.nD, f_d _ _ _, ?_⟩
        exact fun x e n1 n2 n3 => fin x e n1 n2 n3 ⟨g1, g2, g4, g5, g6⟩

theorem ok_alike {f : Addr} {fd : FuncData} (D : Df K mg "is_unknown_or_alike" ["one", "other"] sAlike f fd) : FnOk P w K mg base CX0 1 f fd ["one", "other"] spAlike := by
  refine D.fn.ok scAlike (fun vs H Q E h => ?_) (fun cdv A outer s H vs Q E hr h => ?_)
  · obtain ⟨a, b, rfl, _⟩ := h
    rfl
  · obtain ⟨a, b, rfl, q⟩ := h
    refine ⟨_, pss_one (ps_ret (pe_or (pe_cmpR op_isN (pv 0) pe_non (nomark _)) (pe_or (pe_cmpR op_isN (pv 1) pe_non (nomark _)) (pe_one (pe_cmpR op_eq (pv 0) (pv 1) (nomark _)))))), ?_⟩
    cases a with
    | none => exact ⟨_, rfl, rfl, true, rfl, iteT q⟩
    | some i =>
      refine ⟨_, rfl, rfl, false, rfl, iteF ?_⟩
      cases b with
      | none => exact ⟨_, rfl, rfl, true, rfl, iteT q⟩
      | some j =>
        refine ⟨_, rfl, rfl, false, rfl, iteF ?_⟩
        refine ⟨_, rfl, _, rfl, rfl, ?_⟩
        show Q (V.bl (decide (V.int i = V.int j))) H
        rw [dInt]
        exact q

theorem ok_mayBe {f : Addr} {fd : FuncData} (D : Df K mg "may_be" ["one", "other"] sMayBe f fd) (T : Txt K mg C) (cA : Ca P w K mg base 1 "is_unknown_or_alike" ["one", "other"] spAlike) :
    FnOk P w K mg base CX0 2 f fd ["one", "other"] (spMayBe C) := by
  refine D.fn.ok scMayBe (fun vs H Q E h => ?_) (fun cdv A outer s H vs Q E hr h => ?_)
  · obtain ⟨a, b, y, m, d, y', m', d', rfl, _⟩ := h
    rfl
  · obtain ⟨a, b, y, m, d, y', m', d', rfl, ⟨dx, ha⟩, ⟨dz, hb⟩, q⟩ := h
    refine ⟨_, pss_one (ps_ret (pe_and (pe_cmpR op_eq (pe_fld (pv 0) rfl) (pe_fld (pv 1) rfl) (nomark _))
      (pe_and (pe_ca cA hr (by decide) (by rfl) (pa_cons (pe_fld (pv 0) rfl) (pa_cons (pe_fld (pv 1) rfl) pa_nil)))
        (pe_one (pe_ca cA hr (by decide) (by rfl) (pa_cons (pe_fld (pv 0) rfl) (pa_cons (pe_fld (pv 1) rfl) pa_nil))))))), ?_⟩
    refine ⟨_, rfl, a, C, dx, _, _, rfl, ha, T.cl, T.nY, f_y _ _ _, _, rfl, b, C, dz, _, _, rfl, hb, T.cl, T.nY, f_y _ _ _, rfl, _, rfl, ?_⟩
    rw [dInt]
    unfold mayB at q
    refine ite2 (fun c => ?_) (fun c => ?_)
    · rw [c, Bool.true_and] at q
      refine ⟨_, rfl, a, C, dx, _, _, rfl, ha, T.cl, T.nM, f_m _ _ _, _, rfl, b, C, dz, _, _, rfl, hb, T.cl, T.nM, f_m _ _ _, m, m', rfl, _, rfl, ?_⟩
      cases u : uoa m m' with
      | true =>
        rw [u, Bool.true_and] at q
        refine iteT ⟨_, rfl, a, C, dx, _, _, rfl, ha, T.cl, T.nD, f_d _ _ _, _, rfl, b, C, dz, _, _, rfl, hb, T.cl, T.nD, f_d _ _ _, d, d', rfl, q⟩
      | false =>
        rw [u, Bool.false_and] at q
        exact iteF q
    · have c' : decide (y = y') = false := by simpa using c
      rw [c', Bool.false_and, Bool.false_and] at q
      exact q
end
end K3
namespace K3
open PySem PySem.Spec PyProof.Rows L2

/-! ## the law's own draws -/
abbrev far : Int := 1000000
def spHand (K : PySem.W.Frag) : Sp := fun vs H Q _ => ∃ (a : Addr) (k : Int) (ns : List Int), vs = [.ref a, .int k] ∧ 0 ≤ k ∧ SqL K H a (ns.map V.int) ∧
  ∀ p g m, H p = none → 0 ≤ g → 0 ≤ m → m < 2305843009213693951 → Q (.ref p) (upd H p (.lst [.int g, .int m, .int 0]))
def spTake : Sp := fun vs H Q _ => ∃ (h : Addr) (many n : Int), vs = [.ref h, .int many] ∧ 0 < many ∧ many < 1073741824 ∧ Hand n H h ∧ n ≤ far ∧
  ∀ d H', 0 ≤ d → d < many → Hand (n + 1) H' h → But h H H' → Q (.int d) H'
def spPick : Sp := fun vs H Q _ => ∃ (h l : Addr) (xs : List V) (n : Int), vs = [.ref h, .ref l] ∧ H l = some (.lst xs) ∧ l ≠ h ∧ xs ≠ [] ∧ xs.length < 1000 ∧ Hand n H h ∧ n ≤ far ∧
  ∀ v H', v ∈ xs → Hand (n + 1) H' h → But h H H' → Q v H'
def spLast : Sp := fun vs H Q _ => ∃ y m : Int, vs = [.int y, .int m] ∧ ∀ H', Same H H' → Q (.int (lastDay y m)) H'

section
variable {P : Program} {w : World} {K : PySem.W.Frag} {mg : Str → Option Value} {base : Heap} {C : Addr}

theorem b01 (b : Bool) : -(2 ^ 64) < (if b = true then (1 : Int) else 0) ∧ (if b = true then (1 : Int) else 0) < 2 ^ 64 := by cases b <;> decide
theorem b0 (b : Bool) : 0 ≤ (if b = true then (1 : Int) else 0) := by cases b <;> decide
theorem ok_hand {f : Addr} {fd : FuncData} (D : Df K mg "_law_hand" ["_law_script", "_law_k"] sHand f fd) (T : Txt K mg C) : FnOk P w K mg base CX0 1 f fd ["_law_script", "_law_k"] (spHand K) := by
  refine D.fn.ok scHand (fun vs H Q E h => ?_) (fun cdv A outer s H vs Q E hr h => ?_)
  · obtain ⟨a, k, ns, rfl, _⟩ := h
    rfl
  · obtain ⟨a, k, ns, rfl, hk, hS, q⟩ := h
    refine ⟨_, pss_cons (ps_set (i := 2) scHand.nd rfl (.inl rfl) (pe_ifExp (pt_cmpR op_lt (pv 1) (pe_callB call_len_seq (by rfl) T.len PySem.boot_len (pa_cons (pv 0) pa_nil)) (nomark _)) (pe_ix ix_list (pv 0) (pv 1) (fun _ _ => rfl)) pe_int))
      (pss_cons (ps_set (i := 3) scHand.nd rfl (.inl rfl) (pe_op op_mul (pe_op op_mod (pe_callB call_abs (by rfl) T.abs (by decide +kernel) (pa_cons (pv 2) pa_nil)) (pe_op op_mulW (pe_op op_pow pe_int pe_int) (pe_op op_pow pe_int pe_int)))
        (pe_callTy call_int1 (by rfl) T.int (by decide +kernel) (pa_cons (pe_cmpR op_ge (pe_callB call_abs (by rfl) T.abs (by decide +kernel) (pa_cons (pv 2) pa_nil)) (pe_op op_pow pe_int pe_int) (nomark _)) pa_nil))))
      (pss_one (ps_ret (pe_lst (pa_cons (pv 3) (pa_cons (pe_op op_mod (pe_op op_add (pe_op op_add (pe_op op_mod (pv 2) pe_int) (pe_op op_mul pe_int (pv 1))) pe_int) pe_int) (pa_cons pe_int pa_nil))))))), ?_⟩
    refine ⟨_, rfl, _, rfl, a, _, rfl, .inl hS, k, _, rfl, rfl, _, rfl, ?_⟩
    refine ite2 (fun e => ?_) (fun e => ?_)
    · have hlt : k < ((ns.map V.int).length : Int) := of_decide_eq_true e
      rw [List.length_map] at hlt
      obtain ⟨j, rfl⟩ : ∃ j : Nat, k = (j : Int) := ⟨k.toNat, by omega⟩
      have hj : j < ns.length := by omega
      have hat : atI (ns.map V.int) ((j : Nat) : Int) = some (.int ns[j]) := atI_nat (by rw [List.getElem?_map, List.getElem?_eq_getElem hj]; rfl)
      refine ⟨_, rfl, _, rfl, a, _, _, _, rfl, rfl, hS, hat, ?_⟩
      refine ⟨_, rfl, ns[j], rfl, 10, 60, rfl, rfl, ⟨by decide, by decide, by decide⟩, 10, 60, rfl, rfl, ⟨by decide, by decide, by decide⟩, _, _, rfl, rfl, ?_, _, _, rfl, rfl, ?_, ?_⟩
      · exact wide_mul (a := 300) (b := 300) (by decide +kernel) (by decide +kernel) (by decide) (by decide) (by decide)
      · show (0 : Int) < 10 ^ (60 : Int).toNat * 10 ^ (60 : Int).toNat
        decide +kernel
      · refine ⟨_, rfl, ns[j], rfl, 10, 18, rfl, rfl, ⟨by decide, by decide, by decide⟩, _, _, rfl, rfl, .inr ⟨_, rfl, _, _, rfl, rfl, .inr ?_, ?_⟩⟩
        · exact b01 _
        · refine ⟨_, rfl, _, rfl, ns[j], 2305843009213693951, rfl, rfl, (by show (0 : Int) < 2305843009213693951; decide), _, rfl, 7919, _, rfl, rfl, .inl (by decide), _, _, rfl, rfl, _, _, rfl, rfl, _, _, rfl, rfl, (by show (0 : Int) < 2305843009213693951; decide), (by show 3 ≤ sizeLine; decide), fun p np => ?_⟩
          refine q p _ _ np ?_ (Int.emod_nonneg _ (by decide)) (Int.emod_lt_of_pos _ (by decide))
          refine Int.mul_nonneg (Int.emod_nonneg _ (by decide +kernel)) ?_
          exact b0 _
    · refine ⟨_, rfl, 0, rfl, 10, 60, rfl, rfl, ⟨by decide, by decide, by decide⟩, 10, 60, rfl, rfl, ⟨by decide, by decide, by decide⟩, _, _, rfl, rfl, ?_, _, _, rfl, rfl, ?_, ?_⟩
      · exact wide_mul (a := 300) (b := 300) (by decide +kernel) (by decide +kernel) (by decide) (by decide) (by decide)
      · show (0 : Int) < 10 ^ (60 : Int).toNat * 10 ^ (60 : Int).toNat
        decide +kernel
      · refine ⟨_, rfl, 0, rfl, 10, 18, rfl, rfl, ⟨by decide, by decide, by decide⟩, _, _, rfl, rfl, .inr ⟨_, rfl, _, _, rfl, rfl, .inr ?_, ?_⟩⟩
        · exact b01 _
        · refine ⟨_, rfl, _, rfl, 0, 2305843009213693951, rfl, rfl, (by show (0 : Int) < 2305843009213693951; decide), _, rfl, 7919, _, rfl, rfl, .inl (by decide), _, _, rfl, rfl, _, _, rfl, rfl, _, _, rfl, rfl, (by show (0 : Int) < 2305843009213693951; decide), (by show 3 ≤ sizeLine; decide), fun p np => ?_⟩
          refine q p _ _ np ?_ (Int.emod_nonneg _ (by decide)) (Int.emod_lt_of_pos _ (by decide))
          refine Int.mul_nonneg (Int.emod_nonneg _ (by decide +kernel)) ?_
          exact b0 _

theorem ok_take {f : Addr} {fd : FuncData} (D : Df K mg "_law_take" ["_law_hand_here", "_law_many"] sTake f fd) : FnOk P w K mg base CX0 1 f fd ["_law_hand_here", "_law_many"] spTake := by
  refine D.fn.ok scTake (fun vs H Q E h => ?_) (fun cdv A outer s H vs Q E hr h => ?_)
  · obtain ⟨h, many, n, rfl, _⟩ := h
    rfl
  · obtain ⟨h, many, n, rfl, m1, m2, ⟨g, m, c, hh, g0, k0, k1, c0, c1⟩, hn, q⟩ := h
    refine ⟨_, pss_cons (ps_if (pt_cmpR op_gt (pe_ix ix_list (pv 0) pe_int (fun _ _ => rfl)) pe_int (nomark _))
        (pss_cons (ps_set (i := 2) scTake.nd rfl (.inl rfl) (pe_op op_mod (pe_ix ix_list (pv 0) pe_int (fun _ _ => rfl)) (pv 1)))
        (pss_cons (ps_asg (pe_op op_fdiv (pe_ix ix_list (pv 0) pe_int (fun _ _ => rfl)) (pv 1)) (pg_sub (pv 0) pe_int set_list))
        (pss_one (ps_ret (pv 2))))) pss_nil)
      (pss_cons (ps_asg (pe_op op_add (pe_ix ix_list (pv 0) pe_int (fun _ _ => rfl)) pe_int) (pg_sub (pv 0) pe_int set_list))
      (pss_cons (ps_set (i := 3) scTake.nd rfl (.inl rfl) (pe_op op_mod (pe_op op_mul (pe_op op_add (pe_op op_add (pe_ix ix_list (pv 0) pe_int (fun _ _ => rfl))
          (pe_op op_mul (pe_op op_mul pe_int (pe_ix ix_list (pv 0) pe_int (fun _ _ => rfl))) (pe_ix ix_list (pv 0) pe_int (fun _ _ => rfl)))) pe_int) pe_int) pe_int))
      (pss_cons (ps_set (i := 3) scTake.nd rfl (.inl rfl) (pe_op op_mod (pe_op op_mul (pv 3) (pe_op op_add (pe_op op_mod (pv 3) pe_int) (pe_op op_mul pe_int (pe_ix ix_list (pv 0) pe_int (fun _ _ => rfl))))) pe_int))
      (pss_one (ps_ret (pe_op op_mod (pe_op op_add (pe_op op_fdiv (pv 3) pe_int) (pe_op op_fdiv (pv 3) pe_int)) (pv 1))))))), ?_⟩
    have far' : n ≤ 1000000 := hn
    refine ⟨_, rfl, h, _, 0, _, rfl, rfl, SqL.of hh, atI_nat (j := 0) rfl, g, 0, rfl, rfl, _, rfl, ite2 (fun e => ?_) (fun e => ?_)⟩
    · refine ⟨_, rfl, h, _, 0, _, rfl, rfl, SqL.of hh, atI_nat (j := 0) rfl, _, rfl, g, many, rfl, rfl, m1, ?_⟩
      refine ⟨_, rfl, h, _, 0, _, rfl, rfl, SqL.of hh, atI_nat (j := 0) rfl, _, rfl, g, many, rfl, rfl, ⟨m1, m2⟩, _, rfl, h, _, 0, 0, rfl, rfl, hh, rfl, ?_⟩
      refine ⟨_, rfl, ?_⟩
      exact q _ _ (Int.emod_nonneg _ (by omega)) (Int.emod_lt_of_pos _ m1) ⟨g / many, m, c, upd_same, Int.ediv_nonneg g0 (by omega), k0, k1, c0, by omega⟩ but_upd
    · refine ⟨_, rfl, h, _, 2, _, rfl, rfl, SqL.of hh, atI_nat (j := 2) rfl, c, 1, rfl, rfl, _, rfl, h, _, 2, 2, rfl, rfl, hh, rfl, ?_⟩
      have h2 : (upd H h (.lst [.int g, .int m, .int (c + 1)])) h = some (.lst [.int g, .int m, .int (c + 1)]) := upd_same
      have s2 := SqL.of (K := K) h2
      refine ⟨_, rfl, h, _, 1, _, rfl, rfl, s2, atI_nat (j := 1) rfl, _, rfl, h, _, 2, _, rfl, rfl, s2, atI_nat (j := 2) rfl, 65537, c + 1, rfl, rfl, .inl (by decide), _, rfl, h, _, 2, _, rfl, rfl, s2, atI_nat (j := 2) rfl, _, c + 1, rfl, rfl, .inr (by omega),
        m, _, rfl, rfl, _, 11, rfl, rfl, _, 48271, rfl, rfl, .inr (by decide), _, 2305843009213693921, rfl, rfl, (by show (0 : Int) < 2305843009213693921; decide), ?_⟩
      generalize (m + 65537 * (c + 1) * (c + 1) + 11) * 48271 = z
      have z0 : 0 ≤ z % 2305843009213693921 := Int.emod_nonneg _ (by decide)
      have z1 : z % 2305843009213693921 < 2305843009213693921 := Int.emod_lt_of_pos _ (by decide)
      refine ⟨_, rfl, _, rfl, _, 1000003, rfl, rfl, (by show (0 : Int) < 1000003; decide), _, rfl, h, _, 2, _, rfl, rfl, s2, atI_nat (j := 2) rfl, 99991, c + 1, rfl, rfl, .inl (by decide), _, _, rfl, rfl, _, _, rfl, rfl, .inl (by omega),
        _, 2305843009213693907, rfl, rfl, (by show (0 : Int) < 2305843009213693907; decide), ?_⟩
      refine ⟨_, rfl, _, 97, rfl, rfl, ⟨by decide, by decide⟩, _, rfl, _, 1000033, rfl, rfl, ⟨by decide, by decide⟩, _, _, rfl, rfl, _, rfl, _, many, rfl, rfl, m1, ?_⟩
      exact q _ _ (Int.emod_nonneg _ (by omega)) (Int.emod_lt_of_pos _ m1) ⟨g, m, c + 1, h2, g0, k0, k1, by omega, by omega⟩ but_upd

theorem ok_pick {f : Addr} {fd : FuncData} (D : Df K mg "_law_pick" ["_law_hand_here", "_law_some"] sPick f fd) (T : Txt K mg C) (cT : Ca P w K mg base 1 "_law_take" ["_law_hand_here", "_law_many"] spTake) :
    FnOk P w K mg base CX0 2 f fd ["_law_hand_here", "_law_some"] spPick := by
  refine D.fn.ok scPick (fun vs H Q E h => ?_) (fun cdv A outer s H vs Q E hr h => ?_)
  · obtain ⟨h, l, xs, n, rfl, _⟩ := h
    rfl
  · obtain ⟨h, l, xs, n, rfl, hl, nl, ne, few, hh, hn, q⟩ := h
    refine ⟨_, pss_one (ps_ret (pe_ix ix_list (pv 1) (pe_ca cT hr (by decide) (by rfl) (pa_cons (pv 0) (pa_cons (pe_callB call_len_seq (by rfl) T.len PySem.boot_len (pa_cons (pv 1) pa_nil)) pa_nil))) (fun _ _ => rfl))), ?_⟩
    have pos : 0 < xs.length := List.length_pos_iff.mpr ne
    refine ⟨_, rfl, _, rfl, _, rfl, l, xs, rfl, .inl (SqL.of hl), h, (xs.length : Int), n, rfl, by omega, by omega, hh, hn, fun d H' d0 d1 hh' bt => ?_⟩
    obtain ⟨j, rfl⟩ : ∃ j : Nat, d = (j : Int) := ⟨d.toNat, by omega⟩
    have hj : j < xs.length := by omega
    refine ⟨l, xs, _, xs[j], rfl, rfl, SqL.of (bt _ _ nl hl), atI_nat (List.getElem?_eq_getElem hj), ?_⟩
    exact q _ H' (List.getElem_mem hj) hh' bt

theorem ok_last {f : Addr} {fd : FuncData} (D : Df K mg "_law_last" ["_law_y", "_law_m"] sLast f fd) : FnOk P w K mg base CX0 1 f fd ["_law_y", "_law_m"] spLast := by
  refine D.fn.ok scLast (fun vs H Q E h => ?_) (fun cdv A outer s H vs Q E hr h => ?_)
  · obtain ⟨y, m, rfl, _⟩ := h
    rfl
  · obtain ⟨y, m, rfl, q⟩ := h
    refine ⟨_, pss_cons (ps_if (pt_cmpR op_in_seq (pv 1) (pe_tup (pa_cons pe_int (pa_cons pe_int (pa_cons pe_int (pa_cons pe_int pa_nil))))) (by rfl)) (pss_one (ps_ret pe_int)) pss_nil)
      (pss_cons (ps_if (pt_cmpR op_ne (pv 1) pe_int (nomark _)) (pss_one (ps_ret pe_int)) pss_nil)
      (pss_cons (ps_par (i := 2) (j := 3) (by rfl) scLast.nd rfl rfl (by decide) rfl rfl (pa_cons (pe_cmpR op_eq (pe_op op_mul (pe_op op_fdiv (pv 0) pe_int) pe_int) (pv 0) (nomark _))
        (pa_cons (pe_cmpR op_eq (pe_op op_mul (pe_op op_fdiv (pv 0) pe_int) pe_int) (pv 0) (nomark _)) pa_nil)) (by rfl))
      (pss_one (ps_ret (pe_ifExp (PW.pt (pw_and (pt_val (pv 2)) (pw_and1 (PW.pt (pw_or (pt_not (pt_val (pv 3))) (pw_or1 (pt_cmpR op_eq (pe_op op_mul (pe_op op_fdiv (pv 0) pe_int) pe_int) (pv 0) (nomark _)))))))) pe_int pe_int))))), ?_⟩
    refine ⟨_, rfl, (by show 4 ≤ sizeLine; decide), fun t ht => ?_⟩
    have s1 : Same H (upd H t (.tup [.int 4, .int 6, .int 9, .int 11])) := same_upd ht
    refine ⟨t, _, rfl, .inr (SqT.of upd_same), rfl, rfl, _, rfl, ?_⟩
    have q1 := q _ s1
    have e1 : inV (V.int m) [.int 4, .int 6, .int 9, .int 11] = decide (m = 4 ∨ m = 6 ∨ m = 9 ∨ m = 11) := by
      show ((4 : Int) == m || ((6 : Int) == m || ((9 : Int) == m || ((11 : Int) == m || false)))) = _
      by_cases a : m = 4
      · subst a
        rfl
      · by_cases b : m = 6
        · subst b
          rfl
        · by_cases c : m = 9
          · subst c
            rfl
          · by_cases d : m = 11
            · subst d
              rfl
            · rw [beq_eq_false_iff_ne.mpr (Ne.symm a), beq_eq_false_iff_ne.mpr (Ne.symm b), beq_eq_false_iff_ne.mpr (Ne.symm c), beq_eq_false_iff_ne.mpr (Ne.symm d), decide_eq_false (by omega)]
              rfl
    show (if inV (V.int m) [.int 4, .int 6, .int 9, .int 11] = true then _ else _)
    rw [e1]
    refine ite2 (fun e => ?_) (fun e => ?_)
    · have z : lastDay y m = 30 := by
        unfold lastDay
        rw [if_pos (of_decide_eq_true e)]
      rw [z] at q1
      exact q1
    · have n1 : ¬ (m = 4 ∨ m = 6 ∨ m = 9 ∨ m = 11) := fun z => e (decide_eq_true z)
      refine ⟨_, rfl, rfl, _, rfl, ?_⟩
      rw [dInt]
      refine ite2 (fun c => ?_) (fun c => ?_)
      · have z : lastDay y m = 31 := by
          have c' : m ≠ 2 := by simpa using c
          unfold lastDay
          rw [if_neg n1, if_pos c']
        rw [z] at q1
        exact q1
      · have c' : m = 2 := by simpa using c
        have zz : lastDay y m = if leap y = true then 29 else 28 := by
          unfold lastDay
          rw [if_neg n1, if_neg (by simpa using c')]
        refine ⟨_, rfl, y, 4, rfl, rfl, ⟨by decide, by decide⟩, _, 4, rfl, rfl, .inr (by decide), _, rfl, rfl, _, rfl, y, 100, rfl, rfl, ⟨by decide, by decide⟩, _, 100, rfl, rfl, .inr (by decide), _, rfl, rfl, _, _, rfl, ?_⟩
        rw [dInt, dInt]
        refine ⟨_, rfl, _, rfl, ?_⟩
        refine ite2 (fun a4 => ?_) (fun a4 => ?_)
        · have b4 : y % 4 = 0 := by
            have := of_decide_eq_true a4
            omega
          refine ⟨_, rfl, _, rfl, ?_⟩
          refine ite2 (fun a1 => ?_) (fun a1 => ?_)
          · have b1 : ¬ y % 100 = 0 := by
              have : ¬ y / 100 * 100 = y := by simpa using a1
              omega
            have l : leap y = true := by
              unfold leap
              simp [b4, b1]
            rw [zz, l, if_pos rfl] at q1
            exact iteT q1
          · have b1 : y % 100 = 0 := by
              have : y / 100 * 100 = y := by simpa using a1
              omega
            refine ⟨_, rfl, y, 400, rfl, rfl, ⟨by decide, by decide⟩, _, 400, rfl, rfl, .inr (by decide), _, rfl, rfl, _, rfl, ?_⟩
            rw [dInt]
            refine ite2 (fun a0 => ?_) (fun a0 => ?_)
            · have b0 : y % 400 = 0 := by
                have := of_decide_eq_true a0
                omega
              have l : leap y = true := by
                unfold leap
                simp [b4, b0]
              rw [zz, l, if_pos rfl] at q1
              exact q1
            · have b0 : ¬ y % 400 = 0 := by
                have : ¬ y / 400 * 400 = y := by simpa using a0
                omega
              have l : leap y = false := by
                unfold leap
                simp [b1, b0]
              rw [zz, l] at q1
              exact q1
        · have b4 : ¬ y % 4 = 0 := by
            have : ¬ y / 4 * 4 = y := by simpa using a4
            omega
          have l : leap y = false := by
            unfold leap
            simp [b4]
          rw [zz, l] at q1
          exact iteF q1
end
end K3
namespace K3
open PySem PySem.Spec PyProof.Rows L2

/-! ## parts of days -/
abbrev pV (y : Int) (m d : Option Int) : List V := [.int y, oV m, oV d]
def spParts : Sp := fun vs H Q _ => ∃ (h : Addr) (n : Int), vs = [.ref h] ∧ Hand n H h ∧ n + 20 ≤ far ∧
  ∀ t y m d H', H' t = some (.tup (pV y m d)) → Good y m d → Hand (n + 9) H' h → But h H H' → Q (.ref t) H'
def spOf (K : PySem.W.Frag) (C : Addr) : Sp := fun vs H Q _ => ∃ (t : Addr) (y : Int) (m d : Option Int), vs = [.ref t] ∧ SqT K H t (pV y m d) ∧ Good y m d ∧
  ∀ H' x, Same H H' → DayAt C H' x y m d → Q (.ref x) H'
def spTold (C : Addr) : Sp := fun vs H Q _ => ∃ (x : Addr) (y : Int) (m d : Option Int), vs = [.ref x] ∧ DayAt C H x y m d ∧ ∀ t, H t = none → Q (.ref t) (upd H t (.tup (pV y m d)))
def spEnds (K : PySem.W.Frag) : Sp := fun vs H Q _ => ∃ (t : Addr) (y : Int) (m d : Option Int), vs = [.ref t] ∧ SqT K H t (pV y m d) ∧ Good y m d ∧
  ∀ H' t0 t1 t2, Same H H' → H' t0 = some (.tup [.ref t1, .ref t2]) → H' t1 = some (.tup (pV y (some (m.getD 1)) (some (d.getD 1)))) →
    H' t2 = some (.tup (pV y (some (m.getD 12)) (some (d.getD (lastDay y (m.getD 12)))))) → Q (.ref t0) H'
theorem Hand.fresh {n : Int} {H : Hp} {a l : Addr} (h : Hand n H a) (e : H l = none) : l ≠ a := by
  obtain ⟨xs, q⟩ := h.at_
  exact (ne_of_none q e).symm

section
variable {P : Program} {w : World} {K : PySem.W.Frag} {mg : Str → Option Value} {base : Heap} {C : Addr}

theorem ok_parts {f : Addr} {fd : FuncData} (D : Df K mg "_law_parts" ["_law_hand_here"] sParts f fd) (cT : Ca P w K mg base 1 "_law_take" ["_law_hand_here", "_law_many"] spTake)
    (cP : Ca P w K mg base 2 "_law_pick" ["_law_hand_here", "_law_some"] spPick) (cL : Ca P w K mg base 1 "_law_last" ["_law_y", "_law_m"] spLast) : FnOk P w K mg base CX0 3 f fd ["_law_hand_here"] spParts := by
  refine D.fn.ok scParts (fun vs H Q E h => ?_) (fun cdv A outer s H vs Q E hr h => ?_)
  · obtain ⟨h, n, rfl, _⟩ := h
    rfl
  · obtain ⟨h, n, rfl, hh, hn, q⟩ := h
    have fr : n + 20 ≤ 1000000 := hn
    refine ⟨_, pss_cons (ps_set (i := 1) scParts.nd rfl (.inl rfl) (pe_lst (pa_cons (pe_op op_add pe_int (pe_ca cT hr (by decide) (by rfl) (pa_cons (pv 0) (pa_cons pe_int pa_nil))))
          (pa_cons pe_int (pa_cons pe_int (pa_cons (pe_op op_mul pe_int (pe_op op_add pe_int (pe_ca cT hr (by decide) (by rfl) (pa_cons (pv 0) (pa_cons pe_int pa_nil)))))
            (pa_cons (pe_op op_mul pe_int (pe_op op_add pe_int (pe_ca cT hr (by decide) (by rfl) (pa_cons (pv 0) (pa_cons pe_int pa_nil))))) pa_nil)))))))
      (pss_cons (ps_set (i := 2) scParts.nd rfl (.inl rfl) (pe_ca cP hr (by decide) (by rfl) (pa_cons (pv 0) (pa_cons (pv 1) pa_nil))))
      (pss_cons (ps_par (i := 3) (j := 4) (by rfl) scParts.nd rfl rfl (by decide) rfl rfl (pa_cons (pe_ca cT hr (by decide) (by rfl) (pa_cons (pv 0) (pa_cons pe_int pa_nil)))
          (pa_cons (pe_ca cP hr (by decide) (by rfl) (pa_cons (pv 0) (pa_cons (pe_lst (pa_cons (pe_op op_add pe_int (pe_ca cT hr (by decide) (by rfl) (pa_cons (pv 0) (pa_cons pe_int pa_nil))))
            (pa_cons pe_int (pa_cons pe_int (pa_cons pe_int (pa_cons pe_int pa_nil)))))) pa_nil))) pa_nil)) (by rfl))
      (pss_cons (ps_set (i := 5) scParts.nd rfl (.inl rfl) (pe_ca cL hr (by decide) (by rfl) (pa_cons (pv 2) (pa_cons (pv 4) pa_nil))))
      (pss_cons (ps_set (i := 6) scParts.nd rfl (.inl rfl) (pe_ca cP hr (by decide) (by rfl) (pa_cons (pv 0) (pa_cons (pe_lst (pa_cons (pe_op op_add pe_int (pe_ca cT hr (by decide) (by rfl) (pa_cons (pv 0) (pa_cons (pv 5) pa_nil))))
            (pa_cons pe_int (pa_cons (pv 5) pa_nil)))) pa_nil))))
      (pss_one (ps_ret (pe_ix ix_list (pe_lst (pa_cons (pe_tup (pa_cons (pv 2) (pa_cons pe_non (pa_cons pe_non pa_nil)))) (pa_cons (pe_tup (pa_cons (pv 2) (pa_cons (pv 4) (pa_cons pe_non pa_nil))))
          (pa_cons (pe_tup (pa_cons (pv 2) (pa_cons (pv 4) (pa_cons (pv 6) pa_nil)))) pa_nil)))) (pv 3) (fun _ _ => rfl)))))))), ?_⟩
    -- some
    refine ⟨_, rfl, h, 9999, n, rfl, by decide, by decide, hh, by omega, fun a1 H1 a10 a11 h1 b1 => ?_⟩
    refine ⟨1, a1, rfl, rfl, ?_⟩
    refine ⟨_, rfl, h, 2499, n + 1, rfl, by decide, by decide, h1, by omega, fun a2 H2 a20 a21 h2 b2 => ?_⟩
    refine ⟨1, a2, rfl, rfl, 4, _, rfl, rfl, .inl (by decide), ?_⟩
    refine ⟨_, rfl, h, 99, n + 1 + 1, rfl, by decide, by decide, h2, by omega, fun a3 H3 a30 a31 h3 b3 => ?_⟩
    refine ⟨1, a3, rfl, rfl, 100, _, rfl, rfl, .inl (by decide), (by show 5 ≤ sizeLine; decide), fun l nl => ?_⟩
    -- y
    refine ⟨_, rfl, _, rfl, h, l, _, n + 1 + 1 + 1, rfl, upd_same, h3.fresh nl, by simp, by show 5 < 1000; decide, h3.same (same_upd nl), by omega, fun yv H4 my h4 b4 => ?_⟩
    obtain ⟨y, rfl, y1, y2⟩ : ∃ y : Int, yv = .int y ∧ 1 ≤ y ∧ y ≤ 9999 := by
      simp only [List.mem_cons, List.not_mem_nil, or_false] at my
      rcases my with e | e | e | e | e
      · exact ⟨_, e, by omega, by omega⟩
      · exact ⟨_, e, by decide, by decide⟩
      · exact ⟨_, e, by decide, by decide⟩
      · exact ⟨_, e, by omega, by omega⟩
      · exact ⟨_, e, by omega, by omega⟩
    -- tells, m
    refine ⟨_, rfl, h, 3, n + 1 + 1 + 1 + 1, rfl, by decide, by decide, h4, by omega, fun tl H5 t0 t1 h5 b5 => ?_⟩
    refine ⟨_, rfl, _, rfl, h, 12, n + 1 + 1 + 1 + 1 + 1, rfl, by decide, by decide, h5, by omega, fun a6 H6 a60 a61 h6 b6 => ?_⟩
    refine ⟨1, a6, rfl, rfl, (by show 5 ≤ sizeLine; decide), fun l2 nl2 => ?_⟩
    refine ⟨h, l2, _, n + 1 + 1 + 1 + 1 + 1 + 1, rfl, upd_same, h6.fresh nl2, by simp, by show 5 < 1000; decide, h6.same (same_upd nl2), by omega, fun mv H7 mm h7 b7 => ?_⟩
    obtain ⟨m, rfl, m1, m2⟩ : ∃ m : Int, mv = .int m ∧ 1 ≤ m ∧ m ≤ 12 := by
      simp only [List.mem_cons, List.not_mem_nil, or_false] at mm
      rcases mm with e | e | e | e | e
      · exact ⟨_, e, by omega, by omega⟩
      · exact ⟨_, e, by decide, by decide⟩
      · exact ⟨_, e, by decide, by decide⟩
      · exact ⟨_, e, by decide, by decide⟩
      · exact ⟨_, e, by decide, by decide⟩
    refine ⟨_, _, rfl, ?_⟩
    -- last_here
    refine ⟨_, rfl, _, rfl, y, m, rfl, fun H8 s8 => ?_⟩
    have h8 := h7.same s8
    have ld := lastDay_ge y m
    -- d
    refine ⟨_, rfl, _, rfl, _, rfl, h, lastDay y m, n + 1 + 1 + 1 + 1 + 1 + 1 + 1, rfl, by omega, by omega, h8, by omega, fun a9 H9 a90 a91 h9 b9 => ?_⟩
    refine ⟨1, a9, rfl, rfl, _, rfl, (by show 3 ≤ sizeLine; decide), fun l3 nl3 => ?_⟩
    refine ⟨h, l3, _, n + 1 + 1 + 1 + 1 + 1 + 1 + 1 + 1, rfl, upd_same, h9.fresh nl3, by simp, by show 3 < 1000; decide, h9.same (same_upd nl3), by omega, fun dv HA dm hA bA => ?_⟩
    obtain ⟨d, rfl, d1, d2⟩ : ∃ d : Int, dv = .int d ∧ 1 ≤ d ∧ d ≤ lastDay y m := by
      simp only [List.mem_cons, List.not_mem_nil, or_false] at dm
      rcases dm with e | e | e
      · exact ⟨_, e, by omega, by omega⟩
      · exact ⟨_, e, by decide, by omega⟩
      · exact ⟨_, e, by omega, by omega⟩
    -- the three
    refine ⟨_, rfl, (by show 3 ≤ sizeLine; decide), fun u1 n1 => ?_⟩
    refine ⟨_, rfl, _, rfl, (by show 3 ≤ sizeLine; decide), fun u2 n2 => ?_⟩
    refine ⟨_, rfl, _, rfl, _, rfl, (by show 3 ≤ sizeLine; decide), fun u3 n3 => ?_⟩
    refine ⟨(by show 3 ≤ sizeLine; decide), fun l4 nl4 => ?_⟩
    have sB := (((same_upd n1).trans (same_upd n2)).trans (same_upd n3)).trans (same_upd nl4 (o := .lst [.ref u1, .ref u2, .ref u3]))
    have hB := (hA.same sB).mono (show n + 1 + 1 + 1 + 1 + 1 + 1 + 1 + 1 + 1 ≤ n + 9 by omega)
    have bt : But h H _ := (((((((((b1.trans b2).trans b3).trans (Same.but (same_upd nl) h)).trans b4).trans b5).trans b6).trans (Same.but (same_upd nl2) h)).trans b7).trans (Same.but s8 h)).trans
      (((b9.trans (Same.but (same_upd nl3) h)).trans bA).trans (Same.but sB h))
    have e1 := (((same_upd n2).trans (same_upd n3)).trans (same_upd nl4 (o := .lst [.ref u1, .ref u2, .ref u3]))) u1 _ upd_same
    have e2 := ((same_upd n3).trans (same_upd nl4 (o := .lst [.ref u1, .ref u2, .ref u3]))) u2 _ upd_same
    have e3 := (same_upd nl4 (o := .lst [.ref u1, .ref u2, .ref u3])) u3 _ upd_same
    obtain ⟨j, rfl⟩ : ∃ j : Nat, tl = (j : Int) := ⟨tl.toNat, by omega⟩
    have hj : j < 3 := by omega
    match j, hj with
    | 0, _ => exact ⟨_, rfl, l4, _, _, _, rfl, rfl, SqL.of upd_same, atI_nat (j := 0) rfl, q u1 y none none _ e1 ⟨y1, y2, rfl⟩ hB bt⟩
    | 1, _ => exact ⟨_, rfl, l4, _, _, _, rfl, rfl, SqL.of upd_same, atI_nat (j := 1) rfl, q u2 y (some m) none _ e2 ⟨y1, y2, m1, m2, trivial⟩ hB bt⟩
    | 2, _ => exact ⟨_, rfl, l4, _, _, _, rfl, rfl, SqL.of upd_same, atI_nat (j := 2) rfl, q u3 y (some m) (some d) _ e3 ⟨y1, y2, m1, m2, d1, d2⟩ hB bt⟩

theorem ok_of {f : Addr} {fd : FuncData} (D : Df K mg "_law_of" ["_law_parts_here"] sOf f fd) (mD : Ma P w K mg base 4 "Day" C ["self", "year", "month", "day"] (spInit C)) :
    FnOk P w K mg base CX0 6 f fd ["_law_parts_here"] (spOf K C) := by
  refine D.fn.ok scOf (fun vs H Q E h => ?_) (fun cdv A outer s H vs Q E hr h => ?_)
  · obtain ⟨t, y, m, d, rfl, _⟩ := h
    rfl
  · obtain ⟨t, y, m, d, rfl, ht, g, q⟩ := h
    refine ⟨_, pss_one (ps_ret (pe_ma mD hr (by decide) (by rfl) (pa_cons (pe_ix ix_tup (pv 0) pe_int (fun _ _ => rfl)) (pa_cons (pe_ix ix_tup (pv 0) pe_int (fun _ _ => rfl)) (pa_cons (pe_ix ix_tup (pv 0) pe_int (fun _ _ => rfl)) pa_nil))))), ?_⟩
    refine ⟨_, rfl, t, _, 0, _, rfl, rfl, ht, atI_nat (j := 0) rfl, _, rfl, t, _, 1, _, rfl, rfl, ht, atI_nat (j := 1) rfl, _, rfl, t, _, 2, _, rfl, rfl, ht, atI_nat (j := 2) rfl, fun x e n1 n2 n3 => ?_⟩
    exact ⟨x, e, y, m, d, rfl, g, upd_same, fun H' k dd => ⟨rfl, q H' x (made n1 n2 k) dd⟩⟩

theorem ok_told {f : Addr} {fd : FuncData} (D : Df K mg "_law_told" ["_law_d"] sTold f fd) (T : Txt K mg C) : FnOk P w K mg base CX0 1 f fd ["_law_d"] (spTold C) := by
  refine D.fn.ok scTold (fun vs H Q E h => ?_) (fun cdv A outer s H vs Q E hr h => ?_)
  · obtain ⟨x, y, m, d, rfl, _⟩ := h
    rfl
  · obtain ⟨x, y, m, d, rfl, ⟨dx, ha⟩, q⟩ := h
    refine ⟨_, pss_one (ps_ret (pe_tup (pa_cons (pe_fld (pv 0) rfl) (pa_cons (pe_fld (pv 0) rfl) (pa_cons (pe_fld (pv 0) rfl) pa_nil))))), ?_⟩
    refine ⟨_, rfl, x, C, dx, _, _, rfl, ha, T.cl, T.nY, f_y _ _ _, _, rfl, x, C, dx, _, _, rfl, ha, T.cl, T.nM, f_m _ _ _, _, rfl, x, C, dx, _, _, rfl, ha, T.cl, T.nD, f_d _ _ _, (by show 3 ≤ sizeLine; decide), q⟩
end
end K3
namespace K3
open PySem PySem.Spec PyProof.Rows L2

/-- a tuple of the parts of a day stands there -/
def IsP (H : Hp) (v : V) : Prop := ∃ t y m d, v = .ref t ∧ H t = some (.tup (pV y m d)) ∧ Good y m d
theorem IsP.same {H H' : Hp} {v : V} (p : IsP H v) (s : Same H H') : IsP H' v := by
  obtain ⟨t, y, m, d, e, ht, g⟩ := p
  exact ⟨t, y, m, d, e, s _ _ ht, g⟩
theorem IsP.but {H H' : Hp} {v : V} {h : Addr} {n : Int} (p : IsP H v) (hh : Hand n H h) (s : But h H H') : IsP H' v := by
  obtain ⟨t, y, m, d, e, ht, g⟩ := p
  exact ⟨t, y, m, d, e, s _ _ (Hand.ne_tup (K := []) hh ht) ht, g⟩
/-- a list's store leaves tuples -/
theorem IsP.put {H : Hp} {v : V} {l : Addr} {xs ys : List V} (p : IsP H v) (hl : H l = some (.lst xs)) : IsP (upd H l (.lst ys)) v := by
  obtain ⟨t, y, m, d, e, ht, g⟩ := p
  refine ⟨t, y, m, d, e, ?_, g⟩
  rw [upd_ne (ne_of ht hl (by intro z; cases z))]
  exact ht
theorem Hand.put {n : Int} {H : Hp} {a l : Addr} {o : HO} (h : Hand n H a) (ne : l ≠ a) : Hand n (upd H l o) a := by
  obtain ⟨g, m, c, e, r⟩ := h
  exact ⟨g, m, c, by rw [upd_ne ne.symm]; exact e, r⟩
def spBeside : Sp := fun vs H Q _ => ∃ (h t : Addr) (n y : Int) (m d : Option Int), vs = [.ref h, .ref t] ∧ H t = some (.tup (pV y m d)) ∧ Good y m d ∧ Hand n H h ∧ n + 40 ≤ far ∧
  ∀ t' y' m' d' H', H' t' = some (.tup (pV y' m' d')) → Good y' m' d' → Hand (n + 12) H' h → But h H H' → Q (.ref t') H'
def spMay (K : PySem.W.Frag) : Sp := fun vs H Q _ => ∃ (a b : Addr) (y : Int) (m d : Option Int) (y' : Int) (m' d' : Option Int), vs = [.ref a, .ref b] ∧ SqT K H a (pV y m d) ∧ SqT K H b (pV y' m' d') ∧
  ∀ H', Same H H' → Q (.bl (mayB y m d y' m' d')) H'

section
variable {P : Program} {w : World} {K : PySem.W.Frag} {mg : Str → Option Value} {base : Heap} {C : Addr}

theorem ok_ends {f : Addr} {fd : FuncData} (D : Df K mg "_law_ends" ["_law_parts_here"] sEnds f fd) (cL : Ca P w K mg base 1 "_law_last" ["_law_y", "_law_m"] spLast) :
    FnOk P w K mg base CX0 2 f fd ["_law_parts_here"] (spEnds K) := by
  refine D.fn.ok scEnds (fun vs H Q E h => ?_) (fun cdv A outer s H vs Q E hr h => ?_)
  · obtain ⟨t, y, m, d, rfl, _⟩ := h
    rfl
  · obtain ⟨t, y, m, d, rfl, ht, g, q⟩ := h
    refine ⟨_, pss_cons (ps_asg (pv 0) (pg_tup (by rfl) (pgs_cons (pg_name (i := 1) scEnds.nd rfl (.inl rfl)) (pgs_cons (pg_name (i := 2) scEnds.nd rfl (.inl rfl)) (pgs_cons (pg_name (i := 3) scEnds.nd rfl (.inl rfl)) pgs_nil)))))
      (pss_cons (ps_par (i := 4) (j := 5) (by rfl) scEnds.nd rfl rfl (by decide) rfl rfl (pa_cons (pe_orT (pv 2) (pe_one pe_int)) (pa_cons (pe_orT (pv 2) (pe_one pe_int)) pa_nil)) (by rfl))
      (pss_one (ps_ret (pe_tup (pa_cons (pe_tup (pa_cons (pv 1) (pa_cons (pv 4) (pa_cons (pe_orT (pv 3) (pe_one pe_int)) pa_nil))))
        (pa_cons (pe_tup (pa_cons (pv 1) (pa_cons (pv 5) (pa_cons (pe_orT (pv 3) (pe_one (pe_ca cL hr (by decide) (by rfl) (pa_cons (pv 1) (pa_cons (pv 5) pa_nil))))) pa_nil)))) pa_nil)))))), ?_⟩
    obtain ⟨g1, g2, g3⟩ := g
    refine ⟨_, rfl, t, _, rfl, ht, rfl, _, _, rfl, _, _, rfl, _, _, rfl, rfl, ?_⟩
    have tr : ∀ i : Int, 1 ≤ i → (true : Bool) = (i != 0) := fun i h => by
      have : i ≠ 0 := by omega
      simp [this]
    cases m with
    | none =>
      have ed : d = none := g3
      subst ed
      refine ⟨_, rfl, false, rfl, iteF ?_⟩
      refine ⟨_, rfl, false, rfl, iteF ?_⟩
      refine ⟨_, _, rfl, ?_⟩
      refine ⟨_, rfl, _, rfl, _, rfl, false, rfl, iteF ⟨(by show 3 ≤ sizeLine; decide), fun t1 n1 => ?_⟩⟩
      refine ⟨_, rfl, _, rfl, _, rfl, false, rfl, iteF ⟨_, rfl, _, rfl, y, 12, rfl, fun H2 s2 => ⟨(by show 3 ≤ sizeLine; decide), fun t2 n2 => ⟨(by show 2 ≤ sizeLine; decide), fun t0 n0 => ?_⟩⟩⟩⟩
      exact q _ t0 t1 t2 ((((same_upd n1).trans s2).trans (same_upd n2)).trans (same_upd n0)) upd_same (((s2.trans (same_upd n2)).trans (same_upd n0)) _ _ upd_same) ((same_upd n0) _ _ upd_same)
    | some i =>
      obtain ⟨g4, g5, g6⟩ := g3
      refine ⟨_, rfl, true, tr i g4, iteT ?_⟩
      refine ⟨_, rfl, true, tr i g4, iteT ?_⟩
      refine ⟨_, _, rfl, ?_⟩
      cases d with
      | none =>
        refine ⟨_, rfl, _, rfl, _, rfl, false, rfl, iteF ⟨(by show 3 ≤ sizeLine; decide), fun t1 n1 => ?_⟩⟩
        refine ⟨_, rfl, _, rfl, _, rfl, false, rfl, iteF ⟨_, rfl, _, rfl, y, i, rfl, fun H2 s2 => ⟨(by show 3 ≤ sizeLine; decide), fun t2 n2 => ⟨(by show 2 ≤ sizeLine; decide), fun t0 n0 => ?_⟩⟩⟩⟩
        exact q _ t0 t1 t2 ((((same_upd n1).trans s2).trans (same_upd n2)).trans (same_upd n0)) upd_same (((s2.trans (same_upd n2)).trans (same_upd n0)) _ _ upd_same) ((same_upd n0) _ _ upd_same)
      | some j =>
        refine ⟨_, rfl, _, rfl, _, rfl, true, tr j g6.1, iteT ⟨(by show 3 ≤ sizeLine; decide), fun t1 n1 => ?_⟩⟩
        refine ⟨_, rfl, _, rfl, _, rfl, true, tr j g6.1, iteT ⟨(by show 3 ≤ sizeLine; decide), fun t2 n2 => ⟨(by show 2 ≤ sizeLine; decide), fun t0 n0 => ?_⟩⟩⟩
        exact q _ t0 t1 t2 (((same_upd n1).trans (same_upd n2)).trans (same_upd n0)) upd_same (((same_upd n2).trans (same_upd n0)) _ _ upd_same) ((same_upd n0) _ _ upd_same)

theorem walk_zipT {a b : Addr} {xs ys : List V} (hn : xs.length = ys.length) : Walk (RZ.ItzT K a b) xs.length (fun H => SqT K H a xs ∧ SqT K H b ys) (YPair (fun i => xs[i]?) (fun i => ys[i]?)) := by
  refine ⟨fun i H hi s => ?_, fun H s => ⟨xs, ys, s.1, s.2, .inl (Nat.le_refl _)⟩, fun i H v H' hi s y => ?_⟩
  · exact ⟨xs, ys, xs[i], ys[i], s.1, s.2, List.getElem?_eq_getElem hi, List.getElem?_eq_getElem (hn ▸ hi)⟩
  · obtain ⟨T, x, z, h1, h2, h3, h4, h5⟩ := y
    exact ⟨T, x, z, h1, h2, h3, h4 xs s.1, h5 ys s.2⟩

theorem ok_may {f : Addr} {fd : FuncData} (D : Df K mg "_law_may" ["_law_one", "_law_other"] sMay f fd) (T : Txt K mg C) : FnOk P w K mg base CX0 1 f fd ["_law_one", "_law_other"] (spMay K) := by
  refine D.fn.ok scMay (fun vs H Q E h => ?_) (fun cdv A outer s H vs Q E hr h => ?_)
  · obtain ⟨a, b, y, m, d, y', m', d', rfl, _⟩ := h
    rfl
  · obtain ⟨a, b, y, m, d, y', m', d', rfl, ha, hb, q⟩ := h
    refine ⟨_, pss_one (ps_ret (pe_callB (cr_all (by rfl)) (by rfl) T.all (by decide +kernel) (pa_cons (pe_lc (own := [("_law_mine", 2), ("_law_its", 3)]) (g := gTup K 2 (gCons (gName 2) (gCons (gName 3) gNil))) (tt := tYes) (by rfl) scMay.nd
      (RZ.pi_zipA (by rfl) T.zip (pa_cons (pv 0) (pa_cons (pv 1) pa_nil))) (blkOk_by (own := [("_law_mine", 2), ("_law_its", 3)]) (N := ["_law_one", "_law_other", "_law_mine", "_law_its"]) (sc := defScope sMay) (by decide +kernel))
      (fun _ _ _ _ _ => pg_tup (by rfl) (pgs_cons (pg_name (i := 2) scMay.nd rfl (.inl rfl)) (pgs_cons (pg_name (i := 3) scMay.nd rfl (.inl rfl)) pgs_nil)))
      (fun _ _ _ _ _ => pts_nil)
      (fun _ _ _ _ _ => pe_or (pe_cmpR op_isN (pv 2) pe_non (nomark _)) (pe_or (pe_cmpR op_isN (pv 3) pe_non (nomark _)) (pe_one (pe_cmpR op_eq (pv 2) (pv 3) (nomark _)))))) pa_nil))), ?_⟩
    refine ⟨_, rfl, _, rfl, a, b, _, _, rfl, .inr ⟨ha, hb, fun L nL => ?_⟩⟩
    let bs : List Bool := [uoa (some y) (some y'), uoa m m', uoa d d']
    refine lc_it (walk_zipT (K := K) (a := a) (b := b) (xs := pV y m d) (ys := pV y' m' d') rfl) (fun i Hi => Same H Hi ∧ Hi L = some (.lst ((bs.take i).map V.bl))) ⟨same_upd nL, upd_same⟩ (fun i Hi _ p => ⟨Same.seqT p.1 ha, Same.seqT p.1 hb⟩) ?_ ?_
    · rintro i v Hi H' hi ⟨sm, hL⟩ ⟨t, x, z, rfl, nt, rfl, ex, ez⟩
      have sm2 : Same H (upd Hi t (.tup [x, z])) := sm.trans (same_upd nt)
      have hL2 : (upd Hi t (.tup [x, z])) L = some (.lst ((bs.take i).map V.bl)) := same_upd nt _ _ hL
      obtain ⟨p, r, rfl, rfl, eb⟩ : ∃ p r : Option Int, x = oV p ∧ z = oV r ∧ bs[i]? = some (uoa p r) := by
        match i, hi with
        | 0, _ => exact ⟨some y, some y', (Option.some.inj ex).symm, (Option.some.inj ez).symm, rfl⟩
        | 1, _ => exact ⟨m, m', (Option.some.inj ex).symm, (Option.some.inj ez).symm, rfl⟩
        | 2, _ => exact ⟨d, d', (Option.some.inj ex).symm, (Option.some.inj ez).symm, rfl⟩
      refine ⟨t, _, rfl, SqT.of upd_same, rfl, _, _, rfl, _, _, rfl, rfl, rfl, ?_⟩
      unfold tYes
      refine iteT ?_
      have fin : ∀ k : Bool, k = uoa p r → ∃ acc, (upd Hi t (.tup [oV p, oV r])) L = some (.lst acc) ∧ acc.length < sizeLine ∧ (Same H (upd (upd Hi t (.tup [oV p, oV r])) L (.lst (acc ++ [.bl k]))) ∧
          (upd (upd Hi t (.tup [oV p, oV r])) L (.lst (acc ++ [.bl k]))) L = some (.lst ((bs.take (i + 1)).map V.bl))) := fun k ek => by
        refine ⟨_, hL2, ?_, fun c o e => ?_, ?_⟩
        · rw [List.length_map, List.length_take]
          exact Nat.lt_of_le_of_lt (Nat.min_le_right _ _) (small1000 (by show 3 ≤ 1000; decide))
        · rw [upd_ne (ne_of_none e nL)]
          exact sm2 _ _ e
        · rw [upd_same, List.take_add_one, eb, List.map_append, ek]
          rfl
      cases p with
      | none => exact ⟨_, rfl, rfl, true, rfl, iteT (fin true rfl)⟩
      | some i' =>
        refine ⟨_, rfl, rfl, false, rfl, iteF ?_⟩
        cases r with
        | none => exact ⟨_, rfl, rfl, true, rfl, iteT (fin true rfl)⟩
        | some j' =>
          refine ⟨_, rfl, rfl, false, rfl, iteF ⟨_, rfl, _, rfl, rfl, ?_⟩⟩
          exact fin _ (dInt i' j')
    · rintro He ⟨sm, hL⟩
      refine ⟨L, bs, rfl, SqL.of hL, ?_⟩
      have e : bs.all id = mayB y m d y' m' d' := by
        show (uoa (some y) (some y') && (uoa m m' && (uoa d d' && true))) = _
        unfold mayB
        rw [Bool.and_true, ← Bool.and_assoc]
        rfl
      rw [e]
      exact q _ sm
end
end K3
namespace K3
open PySem PySem.Spec PyProof.Rows L2

theorem good_other {y yo : Int} {m d mo do_ : Option Int} (g : Good y m d) (go : Good yo mo do_) : Good y mo none := by
  obtain ⟨g1, g2, _⟩ := g
  obtain ⟨_, _, g3⟩ := go
  cases mo with
  | none => exact ⟨g1, g2, rfl⟩
  | some i => exact ⟨g1, g2, g3.1, g3.2.1, trivial⟩
theorem good_bare {y : Int} {m d : Option Int} (g : Good y m d) : Good y none none := ⟨g.1, g.2.1, rfl⟩
theorem good_before {y : Int} {m d : Option Int} (g : Good y m d) : Good (if y - 1 > 1 then y - 1 else 1) m none := by
  obtain ⟨g1, g2, g3⟩ := g
  have k : 1 ≤ (if y - 1 > 1 then y - 1 else 1) ∧ (if y - 1 > 1 then y - 1 else 1) ≤ 9999 := by split <;> omega
  cases m with
  | none => exact ⟨k.1, k.2, rfl⟩
  | some i => exact ⟨k.1, k.2, g3.1, g3.2.1, trivial⟩
theorem good_day {y i j : Int} {d : Option Int} (g : Good y (some i) d) (h0 : 0 ≤ j) (h1 : j < 28) : Good y (some i) (some (1 + j)) := by
  obtain ⟨g1, g2, g3, g4, _⟩ := g
  have := lastDay_ge y i
  exact ⟨g1, g2, g3, g4, by omega, by omega⟩

theorem But.free {h l : Addr} {H H' : Hp} (b : But h H H') (ne : l ≠ h) (e : H' l = none) : H l = none := by
  cases q : H l with
  | none => rfl
  | some o =>
    rw [b l o ne q] at e
    cases e
/-- the list of candidates, as the law lays it -/
theorem besideH {H1 H2 H3 H4 H5 H6 H7 : Hp} {h t o u1 u2 u3 u4 l : Addr} {n y yo : Int} {m d mo do_ : Option Int} (g : Good y m d) (go : Good yo mo do_) (hh : Hand n H1 h)
    (ht : H1 t = some (.tup (pV y m d))) (ho : H1 o = some (.tup (pV yo mo do_))) (e2 : H2 = upd H1 u1 (.tup (pV y none none))) (n1 : H1 u1 = none) (e3 : H3 = upd H2 u2 (.tup (pV y m none))) (n2 : H2 u2 = none)
    (e4 : H4 = upd H3 u3 (.tup (pV y mo none))) (n3 : H3 u3 = none) (e5 : H5 = upd H4 l (.lst [.ref u1, .ref u2, .ref u3, .ref t, .ref o])) (nl : H4 l = none)
    (e6 : H6 = upd H5 u4 (.tup (pV (if y - 1 > 1 then y - 1 else 1) m none))) (n4 : H5 u4 = none) (e7 : H7 = upd H6 l (.lst ([.ref u1, .ref u2, .ref u3, .ref t, .ref o] ++ [.ref u4]))) :
    H6 l = some (.lst [.ref u1, .ref u2, .ref u3, .ref t, .ref o]) ∧ But h H1 H7 ∧ Hand n H7 h ∧ H7 l = some (.lst ([.ref u1, .ref u2, .ref u3, .ref t, .ref o] ++ [.ref u4])) ∧
      (∀ v ∈ [V.ref u1, .ref u2, .ref u3, .ref t, .ref o] ++ [.ref u4], IsP H7 v) ∧ H7 o = some (.tup (pV yo mo do_)) ∧ l ≠ h := by
  have k2 : Same H1 H2 := e2 ▸ same_upd n1
  have k3 : Same H2 H3 := e3 ▸ same_upd n2
  have k4 : Same H3 H4 := e4 ▸ same_upd n3
  have k5 : Same H4 H5 := e5 ▸ same_upd nl
  have k6 : Same H5 H6 := e6 ▸ same_upd n4
  have k14 : Same H1 H4 := (k2.trans k3).trans k4
  have k16 : Same H1 H6 := (k14.trans k5).trans k6
  have hl6 : H6 l = some (.lst [.ref u1, .ref u2, .ref u3, .ref t, .ref o]) := k6 _ _ (by rw [e5, upd_same])
  have lh : l ≠ h := (hh.same k14).fresh nl
  have tup : ∀ b xs, H6 b = some (.tup xs) → H7 b = some (.tup xs) := fun b xs e => by
    rw [e7, upd_ne (ne_of e hl6 (by intro z; cases z))]
    exact e
  refine ⟨hl6, fun b z nb e => ?_, e7 ▸ (hh.same k16).put lh, by rw [e7, upd_same], fun v hv => ?_, tup _ _ (k16 _ _ ho), lh⟩
  · have : b ≠ l := ne_of_none (k14 _ _ e) nl
    rw [e7, upd_ne this]
    exact k16 _ _ e
  · simp only [List.cons_append, List.nil_append, List.mem_cons, List.not_mem_nil, or_false] at hv
    rcases hv with e | e | e | e | e | e
    · exact ⟨u1, y, none, none, e, tup _ _ (k6 _ _ (k5 _ _ (k4 _ _ (k3 _ _ (by rw [e2, upd_same]))))), good_bare g⟩
    · exact ⟨u2, y, m, none, e, tup _ _ (k6 _ _ (k5 _ _ (k4 _ _ (by rw [e3, upd_same])))), good_other g g⟩
    · exact ⟨u3, y, mo, none, e, tup _ _ (k6 _ _ (k5 _ _ (by rw [e4, upd_same]))), good_other g go⟩
    · exact ⟨t, y, m, d, e, tup _ _ (k16 _ _ ht), g⟩
    · exact ⟨o, yo, mo, do_, e, tup _ _ (k16 _ _ ho), go⟩
    · exact ⟨u4, _, m, none, e, tup _ _ (by rw [e6, upd_same]), good_before g⟩
/-- one more candidate -/
theorem appendH {H H7 H8 H9 HA : Hp} {h l u : Addr} {n n' yn : Int} {mn dn : Option Int} {xs : List V} (h7 : Hand n H7 h) (h8 : Hand n' H8 h) (b8 : But h H7 H8) (hl : H7 l = some (.lst xs)) (px : ∀ v ∈ xs, IsP H7 v) (lh : l ≠ h)
    (b7 : But h H H7) (nl : H l = none) (g : Good yn mn dn) (e9 : H9 = upd H8 u (.tup (pV yn mn dn))) (n5 : H8 u = none) (eA : HA = upd H9 l (.lst (xs ++ [.ref u]))) :
    H9 l = some (.lst xs) ∧ But h H HA ∧ Hand n' HA h ∧ HA l = some (.lst (xs ++ [.ref u])) ∧ ∀ v ∈ xs ++ [.ref u], IsP HA v := by
  have k9 : Same H8 H9 := e9 ▸ same_upd n5
  have hl9 := k9 _ _ (b8 _ _ lh hl)
  refine ⟨hl9, fun b z nb e => ?_, eA ▸ (h8.same k9).put lh, by rw [eA, upd_same], fun v hv => ?_⟩
  · rw [eA, upd_ne (ne_of_none e nl)]
    exact k9 _ _ (b8 _ _ nb (b7 _ _ nb e))
  · rw [eA]
    rcases List.mem_append.mp hv with hv | hv
    · exact (((px v hv).but h7 b8).same k9).put hl9
    · refine IsP.put ⟨u, yn, mn, dn, List.mem_singleton.mp hv, ?_, g⟩ hl9
      rw [e9, upd_same]

section
variable {P : Program} {w : World} {K : PySem.W.Frag} {mg : Str → Option Value} {base : Heap} {C : Addr}

theorem ok_beside {f : Addr} {fd : FuncData} (D : Df K mg "_law_beside" ["_law_hand_here", "_law_parts_here"] sBeside f fd) (T : Txt K mg C) (cT : Ca P w K mg base 1 "_law_take" ["_law_hand_here", "_law_many"] spTake)
    (cP : Ca P w K mg base 2 "_law_pick" ["_law_hand_here", "_law_some"] spPick) (cA : Ca P w K mg base 3 "_law_parts" ["_law_hand_here"] spParts) : FnOk P w K mg base CX0 4 f fd ["_law_hand_here", "_law_parts_here"] spBeside := by
  refine D.fn.ok scBeside (fun vs H Q E h => ?_) (fun cdv A outer s H vs Q E hr h => ?_)
  · obtain ⟨h, t, n, y, m, d, rfl, _⟩ := h
    rfl
  · obtain ⟨h, t, n, y, m, d, rfl, ht, g, hh, hn, q⟩ := h
    have fr : n + 40 ≤ 1000000 := hn
    refine ⟨_, pss_cons (ps_asg (pv 1) (pg_tup (by rfl) (pgs_cons (pg_name (i := 2) scBeside.nd rfl (.inl rfl)) (pgs_cons (pg_name (i := 3) scBeside.nd rfl (.inl rfl)) (pgs_cons (pg_name (i := 4) scBeside.nd rfl (.inl rfl)) pgs_nil)))))
      (pss_cons (ps_set (i := 5) scBeside.nd rfl (.inl rfl) (pe_ca cA hr (by decide) (by rfl) (pa_cons (pv 0) pa_nil)))
      (pss_cons (ps_set (i := 6) scBeside.nd rfl (.inl rfl) (pe_lst (pa_cons (pe_tup (pa_cons (pv 2) (pa_cons pe_non (pa_cons pe_non pa_nil)))) (pa_cons (pe_tup (pa_cons (pv 2) (pa_cons (pv 3) (pa_cons pe_non pa_nil))))
          (pa_cons (pe_tup (pa_cons (pv 2) (pa_cons (pe_ix ix_tup (pv 5) pe_int (fun _ _ => rfl)) (pa_cons pe_non pa_nil)))) (pa_cons (pv 1) (pa_cons (pv 5) pa_nil)))))))
      (pss_cons (ps_expr (pe_bm PySem.F.plainAttrs_list PySem.F.slot_list_append PySem.F.type_list_append mt_append (pv 6) (pa_cons (pe_tup (pa_cons
          (pe_callB (call_max2 (by rfl)) (by rfl) T.max (by decide +kernel) (pa_cons pe_int (pa_cons (pe_op op_sub (pv 2) pe_int) pa_nil))) (pa_cons (pv 3) (pa_cons pe_non pa_nil)))) pa_nil)))
      (C8.pss_cut (ps_if (pt_cmpR op_notN (pe_ix ix_tup (pv 5) pe_int (fun _ _ => rfl)) pe_non (nomark _))
          (pss_one (ps_expr (pe_bm PySem.F.plainAttrs_list PySem.F.slot_list_append PySem.F.type_list_append mt_append (pv 6) (pa_cons (pe_tup (pa_cons (pv 2) (pa_cons (pe_ix ix_tup (pv 5) pe_int (fun _ _ => rfl))
            (pa_cons (pe_op op_add pe_int (pe_ca cT hr (by decide) (by rfl) (pa_cons (pv 0) (pa_cons pe_int pa_nil)))) pa_nil)))) pa_nil)))) pss_nil)
      (C8.pss_cut (ps_if (pt_cmpR op_notN (pv 3) pe_non (nomark _))
          (pss_one (ps_expr (pe_bm PySem.F.plainAttrs_list PySem.F.slot_list_append PySem.F.type_list_append mt_append (pv 6) (pa_cons (pe_tup (pa_cons (pv 2) (pa_cons (pv 3)
            (pa_cons (pe_op op_add pe_int (pe_ca cT hr (by decide) (by rfl) (pa_cons (pv 0) (pa_cons pe_int pa_nil)))) pa_nil)))) pa_nil)))) pss_nil)
      (pss_one (ps_ret (pe_ca cP hr (by decide) (by rfl) (pa_cons (pv 0) (pa_cons (pv 6) pa_nil)))))))))), ?_⟩
    -- y, m, d; other
    refine ⟨_, rfl, t, _, rfl, SqT.of ht, rfl, _, _, rfl, _, _, rfl, _, _, rfl, rfl, ?_⟩
    refine ⟨_, rfl, h, n, rfl, hh, by show n + 20 ≤ 1000000; omega, fun o yo mo do_ H1 ho go h1 b1 => ?_⟩
    have ht1 : H1 t = some (.tup (pV y m d)) := b1 _ _ (Hand.ne_tup (K := []) hh ht) ht
    -- some
    refine ⟨_, rfl, (by show 3 ≤ sizeLine; decide), fun u1 n1 => ?_⟩
    refine ⟨_, rfl, _, rfl, (by show 3 ≤ sizeLine; decide), fun u2 n2 => ?_⟩
    have s12 := (same_upd n1 (o := .tup (pV y none none))).trans (same_upd n2 (o := .tup (pV y m none)))
    refine ⟨_, rfl, _, rfl, o, _, 1, _, rfl, rfl, SqT.of (s12 _ _ ho), atI_nat (j := 1) rfl, (by show 3 ≤ sizeLine; decide), fun u3 n3 => ?_⟩
    refine ⟨_, rfl, _, rfl, (by show 5 ≤ sizeLine; decide), fun l nl => ?_⟩
    have s13 := s12.trans (same_upd n3 (o := .tup (pV y mo none)))
    -- the first append
    refine ⟨_, rfl, .inl ⟨rfl, _, SqL.of upd_same⟩, _, rfl, y, 1, rfl, rfl, 1, y - 1, rfl, _, rfl, (by show 3 ≤ sizeLine; decide), fun u4 n4 => ?_⟩
    obtain ⟨hl6, bb, h7, hl7, p7, ho7, lh⟩ := besideH g go h1 ht1 ho rfl n1 rfl n2 rfl n3 rfl nl rfl n4 rfl
    refine ⟨l, _, _, rfl, rfl, hl6, (by show 5 < sizeLine; decide), ?_⟩
    have bH := b1.trans bb
    have nlH : H l = none := But.free (b1.trans (Same.but s13 h)) lh nl
    -- between the ifs: the list at l holds parts of days alone
    refine ⟨fun σ' H' => σ' = [some (.ref h), some (.ref t), some (.int y), some (oV m), some (oV d), some (.ref o), some (.ref l)] ∧ But h H H' ∧ Hand (n + 10) H' h ∧ ∃ xs, H' l = some (.lst xs) ∧ (∀ v ∈ xs, IsP H' v) ∧ xs ≠ [] ∧ xs.length ≤ 7, ?_, ?_⟩
    · refine ⟨_, rfl, o, _, 1, _, rfl, rfl, SqT.of ho7, atI_nat (j := 1) rfl, rfl, _, rfl, ?_⟩
      cases mo with
      | none => exact iteF ⟨rfl, bH, h7.mono (by omega), _, hl7, p7, by simp, by show 6 ≤ 7; decide⟩
      | some i =>
        refine iteT ?_
        refine ⟨_, rfl, .inl ⟨rfl, _, SqL.of hl7⟩, _, rfl, _, rfl, o, _, 1, _, rfl, rfl, SqT.of ho7, atI_nat (j := 1) rfl, _, rfl, h, 28, n + 9, rfl, by decide, by decide, h7, by show n + 9 ≤ 1000000; omega, fun a H8 a0 a1 h8 b8 => ?_⟩
        refine ⟨1, a, rfl, rfl, (by show 3 ≤ sizeLine; decide), fun u5 n5 => ?_⟩
        obtain ⟨hl9, bb2, hA, hlA, pA⟩ := appendH (yn := y) (mn := some i) (dn := some (1 + a)) h7 h8 b8 hl7 p7 lh bH nlH (good_day (good_other g go) a0 a1) rfl n5 rfl
        exact ⟨l, _, _, rfl, rfl, hl9, (by show 6 < sizeLine; decide), rfl, bb2, hA.mono (by omega), _, hlA, pA, by simp, by show 7 ≤ 7; decide⟩
    · rintro σ' H' ⟨rfl, bX, hX, xs, hlX, pX, neX, fewX⟩
      refine ⟨fun σ' H' => σ' = [some (.ref h), some (.ref t), some (.int y), some (oV m), some (oV d), some (.ref o), some (.ref l)] ∧ But h H H' ∧ Hand (n + 11) H' h ∧ ∃ xs, H' l = some (.lst xs) ∧ (∀ v ∈ xs, IsP H' v) ∧ xs ≠ [] ∧ xs.length ≤ 8, ?_, ?_⟩
      · refine ⟨_, rfl, rfl, _, rfl, ?_⟩
        cases m with
        | none => exact iteF ⟨rfl, bX, hX.mono (by omega), _, hlX, pX, neX, by omega⟩
        | some i =>
          refine iteT ?_
          refine ⟨_, rfl, .inl ⟨rfl, _, SqL.of hlX⟩, _, rfl, _, rfl, _, rfl, h, 28, n + 10, rfl, by decide, by decide, hX, by show n + 10 ≤ 1000000; omega, fun a H8 a0 a1 h8 b8 => ?_⟩
          refine ⟨1, a, rfl, rfl, (by show 3 ≤ sizeLine; decide), fun u5 n5 => ?_⟩
          obtain ⟨hl9, bb2, hA, hlA, pA⟩ := appendH (yn := y) (mn := some i) (dn := some (1 + a)) hX h8 b8 hlX pX lh bX nlH (good_day g a0 a1) rfl n5 rfl
          refine ⟨l, _, _, rfl, rfl, hl9, small1000 (by omega), rfl, bb2, hA.mono (by omega), _, hlA, pA, by simp, ?_⟩
          rw [List.length_append]
          show xs.length + 1 ≤ 8
          omega
      · rintro σ' H' ⟨rfl, bY, hY, xs, hlY, pY, neY, fewY⟩
        refine ⟨_, rfl, _, rfl, h, l, xs, n + 11, rfl, hlY, lh, neY, by omega, hY, by show n + 11 ≤ 1000000; omega, fun v HZ mv hZ bZ => ?_⟩
        obtain ⟨t', y', m', d', rfl, et, gt⟩ := (pY v mv).but hY bZ
        exact q t' y' m' d' HZ et gt (hZ.mono (by omega)) (bY.trans bZ)
end
end K3
namespace K3
open PySem PySem.Spec PyProof.Rows L2

/-! ## what is shown of the parts of days -/
abbrev pD (y : Int) (m d : Option Int) : PyData := .tuple [.int y, oD m, oD d]
def Tiny (i : Int) : Prop := 0 ≤ i ∧ i < 10000
def TinyO : Option Int → Prop
  | none => True
  | some i => Tiny i
theorem good_tiny {y : Int} {m d : Option Int} (g : Good y m d) : Tiny y ∧ TinyO m ∧ TinyO d := by
  obtain ⟨g1, g2, g3⟩ := g
  refine ⟨⟨by omega, by omega⟩, ?_⟩
  cases m with
  | none =>
    have : d = none := g3
    subst this
    exact ⟨trivial, trivial⟩
  | some i =>
    obtain ⟨g4, g5, g6⟩ := g3
    have l := lastDay_ge y i
    refine ⟨⟨by omega, by omega⟩, ?_⟩
    cases d with
    | none => trivial
    | some j => exact ⟨by have := g6.1; omega, by have := g6.2; omega⟩
theorem int_small {i : Int} (h : Tiny i) : i.natAbs.log2 < 1920 := by
  have h1 : i.natAbs < 2 ^ 14 := by
    obtain ⟨a, b⟩ := h
    omega
  exact Nat.lt_of_lt_of_le (PySem.Flt.log2_lt_of (by decide) h1) (by decide)
theorem int_short {i : Int} (h : Tiny i) : (PyData.shown (.int i)).length ≤ 4 := by
  simp only [PyData.shown]
  exact toString_length_le h.1 (by decide) (by have := h.2; omega)
theorem oD_show {m : Option Int} (h : TinyO m) : (oD m).showable = true := by
  cases m with
  | none => simp [oD, PyData.showable]
  | some i => simpa [oD, PyData.showable] using int_small h
theorem oD_dict (m : Option Int) : (oD m).hasDict = false := by cases m <;> simp [oD, PyData.hasDict]
theorem oD_depth (m : Option Int) : (oD m).depth = 0 := by cases m <;> simp [oD, PyData.depth]
theorem oD_lay (m : Option Int) : (oD m).canLay0 = true := by cases m <;> simp [oD, PyData.canLay0]
theorem oD_short {m : Option Int} (h : TinyO m) : (oD m).shown.length ≤ 4 := by
  cases m with
  | none =>
    simp only [oD, PyData.shown]
    decide +kernel
  | some i => exact int_short h
structure Shows (d : PyData) (n : Nat) : Prop where
  sh : d.showable = true
  nd : d.hasDict = false
  dp : d.depth ≤ 5
  sz : d.shown.length ≤ n
theorem shows3 {y : Int} {m d : Option Int} (hy : Tiny y) (hm : TinyO m) (hd : TinyO d) : Shows (pD y m d) 30 := by
  refine ⟨?_, ?_, ?_, ?_⟩
  · have := int_small hy
    simp [PyData.showable, PyData.showableAll, oD_show hm, oD_show hd, this]
  · simp [PyData.hasDict, PyData.hasDictAll, oD_dict]
  · simp [PyData.depth, PyData.depthAll, oD_depth]
  · simp only [PyData.shown, PyData.shownAll]
    have a := fmt_text [PyData.shown (.int y), (oD m).shown, (oD d).shown]
    simp only [piled_cons, piled_nil] at a
    have b := int_short hy
    have c := oD_short hm
    have e := oD_short hd
    simp only [PyData.shown] at a b
    omega
theorem shows2 {d e : PyData} (hd : Shows d 30) (he : Shows e 30) (h1 : d.depth ≤ 3) (h2 : e.depth ≤ 3) : Shows (.tuple [d, e]) 100 := by
  refine ⟨?_, ?_, ?_, ?_⟩
  · simp [PyData.showable, PyData.showableAll, hd.sh, he.sh]
  · simp [PyData.hasDict, PyData.hasDictAll, hd.nd, he.nd]
  · simp only [PyData.depth, PyData.depthAll]
    omega
  · simp only [PyData.shown, PyData.shownAll]
    have a := fmt_text [d.shown, e.shown]
    simp only [piled_cons, piled_nil] at a
    have b := hd.sz
    have c := he.sz
    omega
theorem pD_depth (y : Int) (m d : Option Int) : (pD y m d).depth ≤ 3 := by
  simp [PyData.depth, PyData.depthAll, oD_depth]
theorem pD_shaped (y : Int) (m d : Option Int) : SeqAt.shaped (pD y m d) = true := by
  unfold SeqAt.shaped
  have h1 : (pD y m d).canLay0 = true := by simp [PyData.canLay0, PyData.canLayAll0, oD_lay]
  have h2 : (pD y m d).depth ≤ 64 := Nat.le_trans (pD_depth y m d) (by decide)
  rw [h1, decide_eq_true h2]
  rfl
theorem dpO {K : PySem.W.Frag} {H : Hp} (m : Option Int) : Dp K H (oV m) (oD m) := by
  cases m with
  | none => exact .non
  | some i => exact .int i
theorem dp3 {K : PySem.W.Frag} {H : Hp} {t : Addr} {y : Int} {m d : Option Int} (h : SqT K H t (pV y m d)) : Dp K H (.ref t) (pD y m d) := .tup h (.cons (.int y) (.cons (dpO m) (.cons (dpO d) .nil)))
theorem Shows.fit {d : PyData} {n : Nat} (s : Shows d n) (h : n ≤ 1000) : d.shown.length ≤ sizeLine := Nat.le_trans s.sz (Nat.le_of_lt (small1000 h))
end K3
namespace K3
open PySem PySem.Spec PyProof.Rows L2

def spRight : Sp := fun vs H Q _ => ∃ h : Addr, vs = [.ref h] ∧ Hand 0 H h ∧ ∀ H', But h H H' → Q (.bl true) H'
def spLaw (K : PySem.W.Frag) : Sp := fun vs H Q _ => ∃ (a : Addr) (ns : List Int), vs = [.ref a] ∧ SqL K H a (ns.map V.int) ∧ ns.length ≤ 63 ∧ ∀ H', Q (.bl true) H'

theorem may_first (y : Int) (m d : Option Int) : mayB y m d y (some (m.getD 1)) (some (d.getD 1)) = true := by
  unfold mayB
  rw [uoa_some, uoa_some, decide_eq_true rfl]
  rfl
theorem may_end (y : Int) (m d : Option Int) (i j : Int) : mayB y (some (m.getD i)) (some (d.getD j)) y m d = true := by
  rw [mayB_comm]
  unfold mayB
  rw [uoa_some, uoa_some, decide_eq_true rfl]
  rfl
theorem may_self (y : Int) (m d : Option Int) : mayB y m d y m d = true := by
  unfold mayB
  rw [uoa_self, uoa_self, decide_eq_true rfl]
  rfl
theorem neNot {A B : Prop} {x : V} (h : B) : if (!decide (x = x)) = true then A else B := by
  rw [decide_eq_true rfl]
  exact iteF h
theorem isTrueNot {A B : Prop} {b : Bool} (e : b = true) (h : B) : if (!decide (b = true)) = true then A else B := by
  rw [decide_eq_true e]
  exact iteF h

section
variable {P : Program} {w : World} {K : PySem.W.Frag} {mg : Str → Option Value} {base : Heap} {C : Addr}

theorem ok_right {f : Addr} {fd : FuncData} (D : Df K mg "_law_right" ["_law_hand_here"] sRight f fd) (T : Txt K mg C) (cA : Ca P w K mg base 3 "_law_parts" ["_law_hand_here"] spParts)
    (cO : Ca P w K mg base 6 "_law_of" ["_law_parts_here"] (spOf K C)) (cE : Ca P w K mg base 2 "_law_ends" ["_law_parts_here"] (spEnds K)) (cF : Ca P w K mg base 6 "earliest" ["day"] (spEarliest C))
    (cL : Ca P w K mg base 6 "latest" ["day"] (spLatest C)) (cT : Ca P w K mg base 1 "_law_told" ["_law_d"] (spTold C)) (cM : Ca P w K mg base 2 "may_be" ["one", "other"] (spMayBe C))
    (cB : Ca P w K mg base 4 "_law_beside" ["_law_hand_here", "_law_parts_here"] spBeside) (cY : Ca P w K mg base 1 "_law_may" ["_law_one", "_law_other"] (spMay K)) :
    Gn P w K mg base 7 f fd ["_law_hand_here"] spRight := by
  refine gn_body D.fn scRight (fun vs H Q E h => ?_) (fun cdv A outer s H vs Q E hg hr h => ?_)
  · obtain ⟨h, rfl, _⟩ := h
    rfl
  · obtain ⟨h, rfl, hh, q⟩ := h
    refine ⟨_, pss_cons (ps_set (i := 1) scRight.nd rfl (.inl rfl) (pe_ca cA hr (by decide) (by rfl) (pa_cons (pv 0) pa_nil)))
      (pss_cons (ps_par (i := 2) (j := 3) (by rfl) scRight.nd rfl rfl (by decide) rfl rfl (pa_cons (pe_ca cO hr (by decide) (by rfl) (pa_cons (pv 1) pa_nil)) (pa_cons (pe_ca cE hr (by decide) (by rfl) (pa_cons (pv 1) pa_nil)) pa_nil)) (by rfl))
      (pss_cons (ps_par (i := 4) (j := 5) (by rfl) scRight.nd rfl rfl (by decide) rfl rfl (pa_cons (pe_ca cF hr (by decide) (by rfl) (pa_cons (pv 2) pa_nil)) (pa_cons (pe_ca cL hr (by decide) (by rfl) (pa_cons (pv 2) pa_nil)) pa_nil)) (by rfl))
      (pss_cons (ps_if (PW.pt (pw_or (pt_not (pt_val (pe_callB (C8.call_isC T.ins) (by rfl) T.isi (by decide +kernel) (pa_cons (pv 4) (pa_cons (pe_glob (v := .ref C) (by rfl) T.mgC rfl) pa_nil)))))
          (pw_or (pt_not (pt_val (pe_callB (C8.call_isC T.ins) (by rfl) T.isi (by decide +kernel) (pa_cons (pv 5) (pa_cons (pe_glob (v := .ref C) (by rfl) T.mgC rfl) pa_nil)))))
          (pw_or1 (pt_cmpR op_ne (pe_callB (cr_reprD hg hr) (by rfl) T.repr (by decide +kernel) (pa_cons (pe_tup (pa_cons (pe_ca cT hr (by decide) (by rfl) (pa_cons (pv 4) pa_nil)) (pa_cons (pe_ca cT hr (by decide) (by rfl) (pa_cons (pv 5) pa_nil)) pa_nil))) pa_nil))
            (pe_callB (cr_reprD hg hr) (by rfl) T.repr (by decide +kernel) (pa_cons (pv 3) pa_nil)) (nomark _)))))) (pss_one (ps_ret pe_bl)) pss_nil)
      (pss_cons (ps_if (PW.pt (pw_or (pt_cmpR op_isnot_bl (pe_ca cM hr (by decide) (by rfl) (pa_cons (pv 2) (pa_cons (pv 4) pa_nil))) pe_bl (nomark _))
          (pw_or (pt_cmpR op_isnot_bl (pe_ca cM hr (by decide) (by rfl) (pa_cons (pv 5) (pa_cons (pv 2) pa_nil))) pe_bl (nomark _))
          (pw_or1 (pt_cmpR op_isnot_bl (pe_ca cM hr (by decide) (by rfl) (pa_cons (pv 2) (pa_cons (pv 2) pa_nil))) pe_bl (nomark _)))))) (pss_one (ps_ret pe_bl)) pss_nil)
      (pss_cons (ps_for PassesOwn.never rfl (pi_range1 rfl T.range (pa_cons pe_int pa_nil)) (pg_name (i := 6) scRight.nd rfl (.inl rfl))
        (pss_cons (ps_set (i := 7) scRight.nd rfl (.inl rfl) (pe_ca cB hr (by decide) (by rfl) (pa_cons (pv 0) (pa_cons (pv 1) pa_nil))))
        (pss_cons (ps_par (i := 8) (j := 9) (by rfl) scRight.nd rfl rfl (by decide) rfl rfl (pa_cons (pe_ca cY hr (by decide) (by rfl) (pa_cons (pv 1) (pa_cons (pv 7) pa_nil))) (pa_cons (pe_ca cO hr (by decide) (by rfl) (pa_cons (pv 7) pa_nil)) pa_nil)) (by rfl))
        (pss_one (ps_if (PW.pt (pw_or (pt_cmpR op_ne (pe_callB cr_repr_bl (by rfl) T.repr (by decide +kernel) (pa_cons (pe_ca cM hr (by decide) (by rfl) (pa_cons (pv 2) (pa_cons (pv 9) pa_nil))) pa_nil))
              (pe_callB cr_repr_bl (by rfl) T.repr (by decide +kernel) (pa_cons (pv 8) pa_nil)) (nomark _))
            (pw_or (pt_cmpR op_ne (pe_callB cr_repr_bl (by rfl) T.repr (by decide +kernel) (pa_cons (pe_ca cM hr (by decide) (by rfl) (pa_cons (pv 9) (pa_cons (pv 2) pa_nil))) pa_nil))
              (pe_callB cr_repr_bl (by rfl) T.repr (by decide +kernel) (pa_cons (pv 8) pa_nil)) (nomark _))
            (pw_or1 (pt_cmpR (op_neD hr.units) (pe_ca cT hr (by decide) (by rfl) (pa_cons (pv 9) pa_nil)) (pv 7) (nomark _)))))) (pss_one (ps_ret pe_bl)) pss_nil)))))
      (pss_one (ps_ret (pe_cmpR op_eq (pe_callB (cr_reprD hg hr) (by rfl) T.repr (by decide +kernel) (pa_cons (pe_ca cT hr (by decide) (by rfl) (pa_cons (pv 2) pa_nil)) pa_nil))
        (pe_callB (cr_reprD hg hr) (by rfl) T.repr (by decide +kernel) (pa_cons (pv 1) pa_nil)) (nomark _))))))))), ?_⟩
    -- parts; the day and its ends
    refine ⟨_, rfl, h, 0, rfl, hh, by decide, fun t y m d H1 ht g h1 b1 => ?_⟩
    have gt := good_tiny g
    refine ⟨_, rfl, t, y, m, d, rfl, SqT.of ht, g, fun H2 x s2 dx2 => ?_⟩
    refine ⟨_, rfl, t, y, m, d, rfl, SqT.of (s2 _ _ ht), g, fun H3 t0 t1 t2 s3 e0 e1 e2 => ⟨_, _, rfl, ?_⟩⟩
    have dx3 := dx2.same s3
    -- earliest, latest
    refine ⟨_, rfl, x, y, m, d, rfl, dx3, g, fun H4 xf s4 df4 => ?_⟩
    refine ⟨_, rfl, x, y, m, d, rfl, dx3.same s4, g, fun H5 xe s5 de5 => ⟨_, _, rfl, ?_⟩⟩
    have df5 := df4.same s5
    have dx5 := (dx3.same s4).same s5
    have s35 := s4.trans s5
    -- they are Days, of the parts that are due
    obtain ⟨cf, kf⟩ := id df5
    obtain ⟨ce, ke⟩ := id de5
    refine ⟨_, rfl, xf, cf, _, rfl, kf, true, rfl, iteF ?_⟩
    refine ⟨_, rfl, xe, ce, _, rfl, ke, true, rfl, iteF ?_⟩
    refine ⟨_, rfl, xf, y, _, _, rfl, df5, fun v1 n1 => ?_⟩
    refine ⟨_, rfl, xe, y, _, _, rfl, de5.same (same_upd n1), fun v2 n2 => ⟨(by show 2 ≤ sizeLine; decide), fun v3 n3 => ?_⟩⟩
    have s58 := ((same_upd n1 (o := .tup (pV y (some (m.getD 1)) (some (d.getD 1))))).trans (same_upd n2 (o := .tup (pV y (some (m.getD 12)) (some (d.getD (lastDay y (m.getD 12)))))))).trans (same_upd n3 (o := .tup [.ref v1, .ref v2]))
    have w1 := ((same_upd n2 (o := .tup (pV y (some (m.getD 12)) (some (d.getD (lastDay y (m.getD 12))))))).trans (same_upd n3 (o := .tup [.ref v1, .ref v2]))) _ _ (upd_same (o := .tup (pV y (some (m.getD 1)) (some (d.getD 1)))))
    have w2 := (same_upd n3 (o := .tup [.ref v1, .ref v2])) _ _ (upd_same (o := .tup (pV y (some (m.getD 12)) (some (d.getD (lastDay y (m.getD 12)))))))
    have tm1 : TinyO (some (m.getD 1)) := by
      cases m with
      | none => exact ⟨by decide, by decide⟩
      | some i => exact gt.2.1
    have td1 : TinyO (some (d.getD 1)) := by
      cases d with
      | none => exact ⟨by decide, by decide⟩
      | some i => exact gt.2.2
    have tm2 : TinyO (some (m.getD 12)) := by
      cases m with
      | none => exact ⟨by decide, by decide⟩
      | some i => exact gt.2.1
    have td2 : TinyO (some (d.getD (lastDay y (m.getD 12)))) := by
      cases d with
      | none =>
        have l := lastDay_ge y (m.getD 12)
        exact ⟨by show 0 ≤ lastDay y (m.getD 12); omega, by show lastDay y (m.getD 12) < 10000; omega⟩
      | some i => exact gt.2.2
    have sh := shows2 (shows3 gt.1 tm1 td1) (shows3 gt.1 tm2 td2) (pD_depth _ _ _) (pD_depth _ _ _)
    refine ⟨v3, .tuple [pD y (some (m.getD 1)) (some (d.getD 1)), pD y (some (m.getD 12)) (some (d.getD (lastDay y (m.getD 12))))], rfl, .tup (SqT.of upd_same) (.cons (dp3 (SqT.of w1)) (.cons (dp3 (SqT.of w2)) .nil)), sh.sh, sh.nd, Nat.le_trans sh.dp (by decide), sh.fit (by decide), ?_⟩
    refine ⟨_, rfl, t0, .tuple [pD y (some (m.getD 1)) (some (d.getD 1)), pD y (some (m.getD 12)) (some (d.getD (lastDay y (m.getD 12))))], rfl, .tup (SqT.of (s58 _ _ (s35 _ _ e0))) (.cons (dp3 (SqT.of (s58 _ _ (s35 _ _ e1)))) (.cons (dp3 (SqT.of (s58 _ _ (s35 _ _ e2)))) .nil)),
      sh.sh, sh.nd, Nat.le_trans sh.dp (by decide), sh.fit (by decide), rfl, _, rfl, neNot ?_⟩
    -- each may be the day
    have dx8 := dx5.same s58
    have df8 := df5.same s58
    have de8 := de5.same s58
    refine ⟨_, rfl, _, rfl, x, xf, y, m, d, y, _, _, rfl, dx8, df8, _, true, rfl, rfl, _, rfl, isTrueNot (may_first y m d) ?_⟩
    refine ⟨_, rfl, _, rfl, xe, x, y, _, _, y, m, d, rfl, de8, dx8, _, true, rfl, rfl, _, rfl, isTrueNot (may_end y m d _ _) ?_⟩
    refine ⟨_, rfl, _, rfl, x, x, y, m, d, y, m, d, rfl, dx8, dx8, _, true, rfl, rfl, _, rfl, isTrueNot (may_self y m d) ?_⟩
    -- six others
    have s18 : Same H1 _ := ((s2.trans s3).trans s35).trans s58
    refine ⟨6, rfl, by decide, by decide, for_range (lo := 0) (n := 6) (fun i σ H' => (∃ v6 v7 v8 v9 : Option V, σ = [some (.ref h), some (.ref t), some (.ref x), some (.ref t0), some (.ref xf), some (.ref xe), v6, v7, v8, v9]) ∧
      But h H H' ∧ Hand (9 + 12 * i) H' h ∧ H' t = some (.tup (pV y m d)) ∧ DayAt C H' x y m d) ⟨⟨none, none, none, none, rfl⟩, b1.trans (Same.but s18 h), (h1.same s18).mono (by omega), s18 _ _ ht, dx8⟩ ?_ ?_⟩
    · rintro i σ Hi hi ⟨⟨v6, v7, v8, v9, rfl⟩, bi, hi', ti, di⟩
      refine ⟨_, rfl, _, rfl, h, t, 9 + 12 * i, y, m, d, rfl, ti, g, hi', by show 9 + 12 * (i : Int) + 40 ≤ 1000000; omega, fun u y' m' d' Ha eu gu ha ba => ?_⟩
      have ta := ba _ _ (Hand.ne_tup (K := []) hi' ti) ti
      have da := di.but hi' ba
      refine ⟨_, rfl, _, rfl, t, u, y, m, d, y', m', d', rfl, SqT.of ta, SqT.of eu, fun Hb sb => ?_⟩
      refine ⟨_, rfl, u, y', m', d', rfl, SqT.of (sb _ _ eu), gu, fun Hc xo sc dc => ⟨_, _, rfl, ?_⟩⟩
      have dxc := (da.same sb).same sc
      refine ⟨_, rfl, _, rfl, x, xo, y, m, d, y', m', d', rfl, dxc, dc, _, rfl, _, rfl, _, rfl, rfl, _, rfl, neNot ?_⟩
      refine ⟨_, rfl, _, rfl, xo, x, y', m', d', y, m, d, rfl, dc, dxc, _, rfl, _, rfl, _, rfl, rfl, _, rfl, ?_⟩
      rw [mayB_comm y' m' d' y m d]
      refine neNot ?_
      refine ⟨_, rfl, xo, y', m', d', rfl, dc, fun v n => ?_⟩
      have euc := (same_upd n (o := .tup (pV y' m' d'))) _ _ (sc _ _ (sb _ _ eu))
      refine ⟨_, rfl, pD y' m' d', pD y' m' d', dp3 (SqT.of upd_same), dp3 (SqT.of euc), pD_shaped _ _ _, pD_shaped _ _ _, _, rfl, ?_⟩
      rw [SeqAt.eqv_refl _ (SeqAt.canLay_of_shaped (pD_shaped y' m' d'))]
      have sbd : Same Ha _ := (sb.trans sc).trans (same_upd n (o := .tup (pV y' m' d')))
      refine iteF ⟨⟨_, _, _, _, rfl⟩, (bi.trans ba).trans (Same.but sbd h), (ha.same sbd).mono (by omega), sbd _ _ ta, da.same sbd⟩
    · rintro σ Hi ⟨⟨v6, v7, v8, v9, rfl⟩, bi, hi', ti, di⟩
      have s3 := shows3 gt.1 gt.2.1 gt.2.2
      refine ⟨_, rfl, x, y, m, d, rfl, di, fun v n => ?_⟩
      refine ⟨v, pD y m d, rfl, dp3 (SqT.of upd_same), s3.sh, s3.nd, Nat.le_trans s3.dp (by decide), s3.fit (by decide), ?_⟩
      refine ⟨_, rfl, t, pD y m d, rfl, dp3 (SqT.of ((same_upd n) _ _ ti)), s3.sh, s3.nd, Nat.le_trans s3.dp (by decide), s3.fit (by decide), rfl, ?_⟩
      show Q (V.bl (decide (V.str (pD y m d).shown = V.str (pD y m d).shown))) _
      rw [decide_eq_true rfl]
      exact q _ (bi.trans (Same.but (same_upd n) h))
end
end K3
namespace K3
open PySem PySem.Spec PyProof.Rows L2
section
variable {P : Program} {w : World} {K : PySem.W.Frag} {mg : Str → Option Value} {base : Heap} {C : Addr}

theorem ok_law {f fR : Addr} {fd fdR : FuncData} (D : Df K mg "law" ["_law_script"] sLaw f fd) (T : Txt K mg C) (cH : Ca P w K mg base 1 "_law_hand" ["_law_script", "_law_k"] (spHand K))
    (DR : Df K mg "_law_right" ["_law_hand_here"] sRight fR fdR) (GR : Gn P w K mg base 7 fR fdR ["_law_hand_here"] spRight) : Gn P w K mg base 8 f fd ["_law_script"] (spLaw K) := by
  refine gn_body D.fn scLaw (fun vs H Q E h => ?_) (fun cdv A outer s H vs Q E hg hr h => ?_)
  · obtain ⟨a, ns, rfl, _⟩ := h
    rfl
  · obtain ⟨a, ns, rfl, hS, hlen, q⟩ := h
    refine ⟨_, pss_one (ps_ret (pe_callB (cr_all (by rfl)) (by rfl) T.all (by decide +kernel) (pa_cons (pe_lc (own := [("_law_k", 1)]) (g := gName 1) (tt := tYes) (by rfl) scLaw.nd
      (pi_range1 (by rfl) T.range (pa_cons (pe_op op_add pe_int (pe_callB (call_min2 (by rfl)) (by rfl) T.min (by decide +kernel) (pa_cons pe_int (pa_cons (pe_callB call_len_seq (by rfl) T.len PySem.boot_len (pa_cons (pv 0) pa_nil)) pa_nil)))) pa_nil))
      (blkOk_by (own := [("_law_k", 1)]) (N := ["_law_script", "_law_k"]) (sc := defScope sLaw) (by decide +kernel))
      (fun _ _ _ _ _ => pg_name (i := 1) scLaw.nd rfl (.inl rfl)) (fun _ _ _ _ _ => pts_nil)
      (fun _ _ _ _ _ => pe_gn GR hg hr (by rfl) DR.mgf DR.fn.kp DR.bd (pa_cons (pe_ca cH hr (by decide) (by rfl) (pa_cons (pv 0) (pa_cons (pv 1) pa_nil))) pa_nil))) pa_nil))), ?_⟩
    refine ⟨_, rfl, a, _, rfl, .inl hS, 10, _, rfl, 2, _, rfl, rfl, _, rfl, ?_, ?_, fun L nL => ?_⟩
    · rw [List.length_map]
      split <;> omega
    · rw [List.length_map]
      split <;> omega
    · refine lc_range (lo := 0) (fun i Hi => Same H Hi ∧ Hi L = some (.lst ((List.replicate i true).map V.bl))) ⟨same_upd nL, upd_same⟩ ?_ ?_
      · rintro i Hi hi ⟨sm, hL⟩
        refine ⟨rfl, ?_⟩
        unfold tYes
        refine iteT ?_
        refine ⟨_, rfl, _, rfl, a, 0 + (i : Int), ns, rfl, by omega, sm.seq hS, fun p g m np g0 m0 m1 => ?_⟩
        refine ⟨p, rfl, ⟨g, m, 0, upd_same, g0, m0, m1, Int.le_refl _, Int.le_refl _⟩, fun H' bt => ?_⟩
        have nLp : L ≠ p := ne_of_none hL np
        refine ⟨_, bt L _ nLp (same_upd np _ _ hL), ?_, fun b o e => ?_, ?_⟩
        · rw [List.length_map, List.length_replicate]
          refine small1000 ?_
          have : i < (2 + (if ((ns.map V.int).length : Int) < 10 then ((ns.map V.int).length : Int) else 10)).toNat := hi
          rw [List.length_map] at this
          split at this <;> omega
        · rw [upd_ne (ne_of_none e nL)]
          have e2 := sm _ _ e
          exact bt _ _ (ne_of_none e2 np) (same_upd np _ _ e2)
        · rw [upd_same, List.replicate_succ', List.map_append]
          rfl
      · rintro He ⟨sm, hL⟩
        refine ⟨L, _, rfl, SqL.of hL, ?_⟩
        rw [show (List.replicate _ true).all id = true from List.all_eq_true.mpr fun b hb => (List.mem_replicate.mp hb).2]
        exact q _
end
end K3
namespace K3
open PySem PySem.Spec PyProof.Rows L2

theorem kit_self {K : PySem.W.Frag} {C : Addr} : PySem.W.kitOne K (.ref C) (.ref C) = some true := by
  unfold PySem.W.kitOne
  simp
theorem all_mk {l : PySem.W.OpenLaw} {w : World} {K : PySem.W.Frag} {h : Heap} {mg : Str → Option Value} {fa C fI tI aM f0 f1 f2 f3 f4 f5 f6 f7 f8 f9 f10 f11 f12 f13 f14 f15 f16 f17 f18 f19 f20 : Addr}
    {odI anI odT odM od0 an0 od1 an1 od2 an2 od3 an3 od4 an4 od5 an5 od6 an6 od7 an7 od8 an8 od9 an9 od10 an10 od11 an11 od12 an12 od13 an13 od14 an14 od15 an15 od16 an16 od17 an17 od18 an18 od19 an19 od20 an20 : Option Addr}
    {slI slT slM sl0 sl1 sl2 sl3 sl4 sl5 sl6 sl7 sl8 sl9 sl10 sl11 sl12 sl13 sl14 sl15 sl16 sl17 sl18 sl19 sl20 : Array (Option Value)}
    {ocI kVI dcI pmI cdI ctI ocT oc0 kV0 dc0 pm0 cd0 ct0 oc1 kV1 dc1 pm1 cd1 ct1 oc2 kV2 dc2 pm2 cd2 ct2 oc3 kV3 dc3 pm3 cd3 ct3 oc4 kV4 dc4 pm4 cd4 ct4 oc5 kV5 dc5 pm5 cd5 ct5 oc6 kV6 dc6 pm6 cd6 ct6 oc7 kV7 dc7 pm7 cd7 ct7 oc8 kV8 dc8 pm8 cd8 ct8 oc9 kV9 dc9 pm9 cd9 ct9 oc10 kV10 dc10 pm10 cd10 ct10 oc11 kV11 dc11 pm11 cd11 ct11 oc12 kV12 dc12 pm12 cd12 ct12 oc13 kV13 dc13 pm13 cd13 ct13 oc14 kV14 dc14 pm14 cd14 ct14 oc15 kV15 dc15 pm15 cd15 ct15 oc16 kV16 dc16 pm16 cd16 ct16 oc17 kV17 dc17 pm17 cd17 ct17 oc18 kV18 dc18 pm18 cd18 ct18 oc19 kV19 dc19 pm19 cd19 ct19 oc20 kV20 dc20 pm20 cd20 ct20 : Value}
    {nT nM : Nat} {tY tO tF u0 u1 u2 u3 u4 u5 u6 u7 u8 u9 u10 u11 : Tok}
    (X : K.In h) (G : h.Ns mainGlobals mg) (hfa : mg "law" = some (.ref fa))
    (a0 : PySem.W.nsIn K mainGlobals "is_whole" = some (some (.ref f0)))
    (l0 : K.lookup f0 = some ⟨oc0, od0, .func (PySem.W.fnOf "is_whole" "is_whole" (defArgs sWhole) (defBody sWhole) (defScope sWhole) .none kV0 dc0 pm0 an0 cd0 ct0), sl0⟩)
    (c0 : PySem.W.codeIn K cd0 "is_whole" = true)
    (k0 : PySem.W.keepIn K (.ref f0) = true)
    (a1 : PySem.W.nsIn K mainGlobals "is_within" = some (some (.ref f1)))
    (l1 : K.lookup f1 = some ⟨oc1, od1, .func (PySem.W.fnOf "is_within" "is_within" (defArgs sWithin) (defBody sWithin) (defScope sWithin) .none kV1 dc1 pm1 an1 cd1 ct1), sl1⟩)
    (c1 : PySem.W.codeIn K cd1 "is_within" = true)
    (k1 : PySem.W.keepIn K (.ref f1) = true)
    (a2 : PySem.W.nsIn K mainGlobals "is_leap" = some (some (.ref f2)))
    (l2 : K.lookup f2 = some ⟨oc2, od2, .func (PySem.W.fnOf "is_leap" "is_leap" (defArgs sLeap) (defBody sLeap) (defScope sLeap) .none kV2 dc2 pm2 an2 cd2 ct2), sl2⟩)
    (c2 : PySem.W.codeIn K cd2 "is_leap" = true)
    (k2 : PySem.W.keepIn K (.ref f2) = true)
    (a3 : PySem.W.nsIn K mainGlobals "days_in" = some (some (.ref f3)))
    (l3 : K.lookup f3 = some ⟨oc3, od3, .func (PySem.W.fnOf "days_in" "days_in" (defArgs sDaysIn) (defBody sDaysIn) (defScope sDaysIn) .none kV3 dc3 pm3 an3 cd3 ct3), sl3⟩)
    (c3 : PySem.W.codeIn K cd3 "days_in" = true)
    (k3 : PySem.W.keepIn K (.ref f3) = true)
    (a4 : PySem.W.nsIn K mainGlobals "makes_day" = some (some (.ref f4)))
    (l4 : K.lookup f4 = some ⟨oc4, od4, .func (PySem.W.fnOf "makes_day" "makes_day" (defArgs sMakes) (defBody sMakes) (defScope sMakes) .none kV4 dc4 pm4 an4 cd4 ct4), sl4⟩)
    (c4 : PySem.W.codeIn K cd4 "makes_day" = true)
    (k4 : PySem.W.keepIn K (.ref f4) = true)
    (a5 : PySem.W.nsIn K mainGlobals "earliest" = some (some (.ref f5)))
    (l5 : K.lookup f5 = some ⟨oc5, od5, .func (PySem.W.fnOf "earliest" "earliest" (defArgs sEarliest) (defBody sEarliest) (defScope sEarliest) .none kV5 dc5 pm5 an5 cd5 ct5), sl5⟩)
    (c5 : PySem.W.codeIn K cd5 "earliest" = true)
    (k5 : PySem.W.keepIn K (.ref f5) = true)
    (a6 : PySem.W.nsIn K mainGlobals "latest" = some (some (.ref f6)))
    (l6 : K.lookup f6 = some ⟨oc6, od6, .func (PySem.W.fnOf "latest" "latest" (defArgs sLatest) (defBody sLatest) (defScope sLatest) .none kV6 dc6 pm6 an6 cd6 ct6), sl6⟩)
    (c6 : PySem.W.codeIn K cd6 "latest" = true)
    (k6 : PySem.W.keepIn K (.ref f6) = true)
    (a7 : PySem.W.nsIn K mainGlobals "is_unknown_or_alike" = some (some (.ref f7)))
    (l7 : K.lookup f7 = some ⟨oc7, od7, .func (PySem.W.fnOf "is_unknown_or_alike" "is_unknown_or_alike" (defArgs sAlike) (defBody sAlike) (defScope sAlike) .none kV7 dc7 pm7 an7 cd7 ct7), sl7⟩)
    (c7 : PySem.W.codeIn K cd7 "is_unknown_or_alike" = true)
    (k7 : PySem.W.keepIn K (.ref f7) = true)
    (a8 : PySem.W.nsIn K mainGlobals "may_be" = some (some (.ref f8)))
    (l8 : K.lookup f8 = some ⟨oc8, od8, .func (PySem.W.fnOf "may_be" "may_be" (defArgs sMayBe) (defBody sMayBe) (defScope sMayBe) .none kV8 dc8 pm8 an8 cd8 ct8), sl8⟩)
    (c8 : PySem.W.codeIn K cd8 "may_be" = true)
    (k8 : PySem.W.keepIn K (.ref f8) = true)
    (a9 : PySem.W.nsIn K mainGlobals "_law_hand" = some (some (.ref f9)))
    (l9 : K.lookup f9 = some ⟨oc9, od9, .func (PySem.W.fnOf "_law_hand" "_law_hand" (defArgs sHand) (defBody sHand) (defScope sHand) .none kV9 dc9 pm9 an9 cd9 ct9), sl9⟩)
    (c9 : PySem.W.codeIn K cd9 "_law_hand" = true)
    (k9 : PySem.W.keepIn K (.ref f9) = true)
    (a10 : PySem.W.nsIn K mainGlobals "_law_take" = some (some (.ref f10)))
    (l10 : K.lookup f10 = some ⟨oc10, od10, .func (PySem.W.fnOf "_law_take" "_law_take" (defArgs sTake) (defBody sTake) (defScope sTake) .none kV10 dc10 pm10 an10 cd10 ct10), sl10⟩)
    (c10 : PySem.W.codeIn K cd10 "_law_take" = true)
    (k10 : PySem.W.keepIn K (.ref f10) = true)
    (a11 : PySem.W.nsIn K mainGlobals "_law_pick" = some (some (.ref f11)))
    (l11 : K.lookup f11 = some ⟨oc11, od11, .func (PySem.W.fnOf "_law_pick" "_law_pick" (defArgs sPick) (defBody sPick) (defScope sPick) .none kV11 dc11 pm11 an11 cd11 ct11), sl11⟩)
    (c11 : PySem.W.codeIn K cd11 "_law_pick" = true)
    (k11 : PySem.W.keepIn K (.ref f11) = true)
    (a12 : PySem.W.nsIn K mainGlobals "_law_last" = some (some (.ref f12)))
    (l12 : K.lookup f12 = some ⟨oc12, od12, .func (PySem.W.fnOf "_law_last" "_law_last" (defArgs sLast) (defBody sLast) (defScope sLast) .none kV12 dc12 pm12 an12 cd12 ct12), sl12⟩)
    (c12 : PySem.W.codeIn K cd12 "_law_last" = true)
    (k12 : PySem.W.keepIn K (.ref f12) = true)
    (a13 : PySem.W.nsIn K mainGlobals "_law_parts" = some (some (.ref f13)))
    (l13 : K.lookup f13 = some ⟨oc13, od13, .func (PySem.W.fnOf "_law_parts" "_law_parts" (defArgs sParts) (defBody sParts) (defScope sParts) .none kV13 dc13 pm13 an13 cd13 ct13), sl13⟩)
    (c13 : PySem.W.codeIn K cd13 "_law_parts" = true)
    (k13 : PySem.W.keepIn K (.ref f13) = true)
    (a14 : PySem.W.nsIn K mainGlobals "_law_of" = some (some (.ref f14)))
    (l14 : K.lookup f14 = some ⟨oc14, od14, .func (PySem.W.fnOf "_law_of" "_law_of" (defArgs sOf) (defBody sOf) (defScope sOf) .none kV14 dc14 pm14 an14 cd14 ct14), sl14⟩)
    (c14 : PySem.W.codeIn K cd14 "_law_of" = true)
    (k14 : PySem.W.keepIn K (.ref f14) = true)
    (a15 : PySem.W.nsIn K mainGlobals "_law_told" = some (some (.ref f15)))
    (l15 : K.lookup f15 = some ⟨oc15, od15, .func (PySem.W.fnOf "_law_told" "_law_told" (defArgs sTold) (defBody sTold) (defScope sTold) .none kV15 dc15 pm15 an15 cd15 ct15), sl15⟩)
    (c15 : PySem.W.codeIn K cd15 "_law_told" = true)
    (k15 : PySem.W.keepIn K (.ref f15) = true)
    (a16 : PySem.W.nsIn K mainGlobals "_law_ends" = some (some (.ref f16)))
    (l16 : K.lookup f16 = some ⟨oc16, od16, .func (PySem.W.fnOf "_law_ends" "_law_ends" (defArgs sEnds) (defBody sEnds) (defScope sEnds) .none kV16 dc16 pm16 an16 cd16 ct16), sl16⟩)
    (c16 : PySem.W.codeIn K cd16 "_law_ends" = true)
    (k16 : PySem.W.keepIn K (.ref f16) = true)
    (a17 : PySem.W.nsIn K mainGlobals "_law_beside" = some (some (.ref f17)))
    (l17 : K.lookup f17 = some ⟨oc17, od17, .func (PySem.W.fnOf "_law_beside" "_law_beside" (defArgs sBeside) (defBody sBeside) (defScope sBeside) .none kV17 dc17 pm17 an17 cd17 ct17), sl17⟩)
    (c17 : PySem.W.codeIn K cd17 "_law_beside" = true)
    (k17 : PySem.W.keepIn K (.ref f17) = true)
    (a18 : PySem.W.nsIn K mainGlobals "_law_may" = some (some (.ref f18)))
    (l18 : K.lookup f18 = some ⟨oc18, od18, .func (PySem.W.fnOf "_law_may" "_law_may" (defArgs sMay) (defBody sMay) (defScope sMay) .none kV18 dc18 pm18 an18 cd18 ct18), sl18⟩)
    (c18 : PySem.W.codeIn K cd18 "_law_may" = true)
    (k18 : PySem.W.keepIn K (.ref f18) = true)
    (a19 : PySem.W.nsIn K mainGlobals "_law_right" = some (some (.ref f19)))
    (l19 : K.lookup f19 = some ⟨oc19, od19, .func (PySem.W.fnOf "_law_right" "_law_right" (defArgs sRight) (defBody sRight) (defScope sRight) .none kV19 dc19 pm19 an19 cd19 ct19), sl19⟩)
    (c19 : PySem.W.codeIn K cd19 "_law_right" = true)
    (k19 : PySem.W.keepIn K (.ref f19) = true)
    (a20 : PySem.W.nsIn K mainGlobals "law" = some (some (.ref f20)))
    (l20 : K.lookup f20 = some ⟨oc20, od20, .func (PySem.W.fnOf "law" "law" (defArgs sLaw) (defBody sLaw) (defScope sLaw) .none kV20 dc20 pm20 an20 cd20 ct20), sl20⟩)
    (c20 : PySem.W.codeIn K cd20 "law" = true)
    (k20 : PySem.W.keepIn K (.ref f20) = true)
    (aC : PySem.W.nsIn K mainGlobals "Day" = some (some (.ref C)))
    (aI : PySem.W.findIn K (.ref C) "__init__" = some (some (.ref fI)))
    (iI : PySem.W.isFn K (.ref fI) = true)
    (lI : K.lookup fI = some ⟨ocI, odI, .func (PySem.W.fnOf "__init__" "Day.__init__" (defArgs sInit) (defBody sInit) (defScope sInit) (.ref tI) kVI dcI pmI anI cdI ctI), slI⟩)
    (cI : PySem.W.codeIn K cdI "Day.__init__" = true)
    (kI : PySem.W.keepIn K (.ref fI) = true)
    (lT : K.lookup tI = some ⟨ocT, odT, .seq #[Value.none, Value.none] nT, slT⟩)
    (pg : PySem.W.plainGet K C Str.empty = true)
    (hd : PySem.W.hasDictIn K C = true)
    (po : PySem.W.plainOver K C = true)
    (sa : PySem.W.findIn K (.ref C) "__setattr__" = some (some (.builtin "object.__setattr__")))
    (mk : PySem.W.makesIn K C = true)
    (kc : PySem.W.keepIn K (.ref C) = true)
    (nY : PySem.W.findIn K (.ref C) "year" = some none)
    (nMo : PySem.W.findIn K (.ref C) "month" = some none)
    (nD : PySem.W.findIn K (.ref C) "day" = some none)
    (ha : PySem.W.findIn K (.ref C) "__class__" = some (some (.builtin "object.__class__")))
    (hn : PySem.W.specialIn K (.builtin "object.__class__") "__get__" = some (some (.builtin "getset_descriptor.__get__")))
    (ht : PySem.W.takesIn K (.builtin "object.__class__") = some true)
    (hm : PySem.W.mroIn K C (.type "object") = some true)
    (gY : PySem.W.nsIn K mainGlobals "LAST_YEAR" = some (some (.int 9999 tY)))
    (gO : PySem.W.nsIn K mainGlobals "MONTHS" = some (some (.int 12 tO)))
    (gF : PySem.W.nsIn K mainGlobals "FEBRUARY" = some (some (.int 2 tF)))
    (gM : PySem.W.nsIn K mainGlobals "MONTH_DAYS" = some (some (.ref aM)))
    (lM : K.lookup aM = some ⟨.type "tuple", odM, .seq #[.int 31 u0, .int 28 u1, .int 31 u2, .int 30 u3, .int 31 u4, .int 30 u5, .int 31 u6, .int 31 u7, .int 30 u8, .int 31 u9, .int 30 u10, .int 31 u11] nM, slM⟩)
    (z_isinstance : PySem.W.nsIn K mainGlobals "isinstance" = some none)
    (z_int : PySem.W.nsIn K mainGlobals "int" = some none)
    (z_bool : PySem.W.nsIn K mainGlobals "bool" = some none)
    (z_len : PySem.W.nsIn K mainGlobals "len" = some none)
    (z_abs : PySem.W.nsIn K mainGlobals "abs" = some none)
    (z_max : PySem.W.nsIn K mainGlobals "max" = some none)
    (z_min : PySem.W.nsIn K mainGlobals "min" = some none)
    (z_all : PySem.W.nsIn K mainGlobals "all" = some none)
    (z_zip : PySem.W.nsIn K mainGlobals "zip" = some none)
    (z_range : PySem.W.nsIn K mainGlobals "range" = some none)
    (z_repr : PySem.W.nsIn K mainGlobals "repr" = some none)
    : ∃ fd : FuncData, (∀ (s : Shared) (v : Value), BindsTo s fd ⟨[v], []⟩ [("_law_script", v)]) ∧
      ∀ base : Heap, K.In base → base.Ns mainGlobals mg → Gn l.prog w K mg base 8 fa fd ["_law_script"] (spLaw K) := by
  have e := hfa.symm.trans (PySem.W.mg_of X G a20)
  cases e
  have T : Txt K mg C := ⟨⟨pg, hd, po, sa⟩, nY, nMo, nD, PySem.W.mg_of X G aC, ⟨⟨pg, hd, po, sa⟩, ha, hn, ht, hm, kit_self⟩, ⟨_, PySem.W.mg_of X G gY⟩, ⟨_, PySem.W.mg_of X G gO⟩, ⟨_, PySem.W.mg_of X G gF⟩,
    ⟨aM, PySem.W.mg_of X G gM, fun H => .inr ⟨_, _, _, lM, rfl, rfl, (by show 12 ≤ sizeLine; decide), .cons ⟨_, rfl⟩ (.cons ⟨_, rfl⟩ (.cons ⟨_, rfl⟩ (.cons ⟨_, rfl⟩ (.cons ⟨_, rfl⟩ (.cons ⟨_, rfl⟩ (.cons ⟨_, rfl⟩ (.cons ⟨_, rfl⟩ (.cons ⟨_, rfl⟩ (.cons ⟨_, rfl⟩ (.cons ⟨_, rfl⟩ (.cons ⟨_, rfl⟩ (.nil))))))))))))⟩⟩,
    PySem.W.mg_none_of X G z_isinstance, PySem.W.mg_none_of X G z_int, PySem.W.mg_none_of X G z_bool, PySem.W.mg_none_of X G z_len, PySem.W.mg_none_of X G z_abs, PySem.W.mg_none_of X G z_max, PySem.W.mg_none_of X G z_min, PySem.W.mg_none_of X G z_all, PySem.W.mg_none_of X G z_zip, PySem.W.mg_none_of X G z_range, PySem.W.mg_none_of X G z_repr⟩
  have F0 := fun_mk (st := sWhole) l0 c0 k0
  have D0 : Df K mg "is_whole" ["thing"] sWhole f0 _ := ⟨F0, PySem.W.mg_of X G a0, F0.binds (ps := ["thing"]) fun _ _ _ _ _ _ us hl => match us, hl with | [_], _ => rfl⟩
  have F1 := fun_mk (st := sWithin) l1 c1 k1
  have D1 : Df K mg "is_within" ["thing", "least", "most"] sWithin f1 _ := ⟨F1, PySem.W.mg_of X G a1, F1.binds (ps := ["thing", "least", "most"]) fun _ _ _ _ _ _ us hl => match us, hl with | [_, _, _], _ => rfl⟩
  have F2 := fun_mk (st := sLeap) l2 c2 k2
  have D2 : Df K mg "is_leap" ["year"] sLeap f2 _ := ⟨F2, PySem.W.mg_of X G a2, F2.binds (ps := ["year"]) fun _ _ _ _ _ _ us hl => match us, hl with | [_], _ => rfl⟩
  have F3 := fun_mk (st := sDaysIn) l3 c3 k3
  have D3 : Df K mg "days_in" ["year", "month"] sDaysIn f3 _ := ⟨F3, PySem.W.mg_of X G a3, F3.binds (ps := ["year", "month"]) fun _ _ _ _ _ _ us hl => match us, hl with | [_, _], _ => rfl⟩
  have F4 := fun_mk (st := sMakes) l4 c4 k4
  have D4 : Df K mg "makes_day" ["year", "month", "day"] sMakes f4 _ := ⟨F4, PySem.W.mg_of X G a4, F4.binds (ps := ["year", "month", "day"]) fun _ _ _ _ _ _ us hl => match us, hl with | [_, _, _], _ => rfl⟩
  have F5 := fun_mk (st := sEarliest) l5 c5 k5
  have D5 : Df K mg "earliest" ["day"] sEarliest f5 _ := ⟨F5, PySem.W.mg_of X G a5, F5.binds (ps := ["day"]) fun _ _ _ _ _ _ us hl => match us, hl with | [_], _ => rfl⟩
  have F6 := fun_mk (st := sLatest) l6 c6 k6
  have D6 : Df K mg "latest" ["day"] sLatest f6 _ := ⟨F6, PySem.W.mg_of X G a6, F6.binds (ps := ["day"]) fun _ _ _ _ _ _ us hl => match us, hl with | [_], _ => rfl⟩
  have F7 := fun_mk (st := sAlike) l7 c7 k7
  have D7 : Df K mg "is_unknown_or_alike" ["one", "other"] sAlike f7 _ := ⟨F7, PySem.W.mg_of X G a7, F7.binds (ps := ["one", "other"]) fun _ _ _ _ _ _ us hl => match us, hl with | [_, _], _ => rfl⟩
  have F8 := fun_mk (st := sMayBe) l8 c8 k8
  have D8 : Df K mg "may_be" ["one", "other"] sMayBe f8 _ := ⟨F8, PySem.W.mg_of X G a8, F8.binds (ps := ["one", "other"]) fun _ _ _ _ _ _ us hl => match us, hl with | [_, _], _ => rfl⟩
  have F9 := fun_mk (st := sHand) l9 c9 k9
  have D9 : Df K mg "_law_hand" ["_law_script", "_law_k"] sHand f9 _ := ⟨F9, PySem.W.mg_of X G a9, F9.binds (ps := ["_law_script", "_law_k"]) fun _ _ _ _ _ _ us hl => match us, hl with | [_, _], _ => rfl⟩
  have F10 := fun_mk (st := sTake) l10 c10 k10
  have D10 : Df K mg "_law_take" ["_law_hand_here", "_law_many"] sTake f10 _ := ⟨F10, PySem.W.mg_of X G a10, F10.binds (ps := ["_law_hand_here", "_law_many"]) fun _ _ _ _ _ _ us hl => match us, hl with | [_, _], _ => rfl⟩
  have F11 := fun_mk (st := sPick) l11 c11 k11
  have D11 : Df K mg "_law_pick" ["_law_hand_here", "_law_some"] sPick f11 _ := ⟨F11, PySem.W.mg_of X G a11, F11.binds (ps := ["_law_hand_here", "_law_some"]) fun _ _ _ _ _ _ us hl => match us, hl with | [_, _], _ => rfl⟩
  have F12 := fun_mk (st := sLast) l12 c12 k12
  have D12 : Df K mg "_law_last" ["_law_y", "_law_m"] sLast f12 _ := ⟨F12, PySem.W.mg_of X G a12, F12.binds (ps := ["_law_y", "_law_m"]) fun _ _ _ _ _ _ us hl => match us, hl with | [_, _], _ => rfl⟩
  have F13 := fun_mk (st := sParts) l13 c13 k13
  have D13 : Df K mg "_law_parts" ["_law_hand_here"] sParts f13 _ := ⟨F13, PySem.W.mg_of X G a13, F13.binds (ps := ["_law_hand_here"]) fun _ _ _ _ _ _ us hl => match us, hl with | [_], _ => rfl⟩
  have F14 := fun_mk (st := sOf) l14 c14 k14
  have D14 : Df K mg "_law_of" ["_law_parts_here"] sOf f14 _ := ⟨F14, PySem.W.mg_of X G a14, F14.binds (ps := ["_law_parts_here"]) fun _ _ _ _ _ _ us hl => match us, hl with | [_], _ => rfl⟩
  have F15 := fun_mk (st := sTold) l15 c15 k15
  have D15 : Df K mg "_law_told" ["_law_d"] sTold f15 _ := ⟨F15, PySem.W.mg_of X G a15, F15.binds (ps := ["_law_d"]) fun _ _ _ _ _ _ us hl => match us, hl with | [_], _ => rfl⟩
  have F16 := fun_mk (st := sEnds) l16 c16 k16
  have D16 : Df K mg "_law_ends" ["_law_parts_here"] sEnds f16 _ := ⟨F16, PySem.W.mg_of X G a16, F16.binds (ps := ["_law_parts_here"]) fun _ _ _ _ _ _ us hl => match us, hl with | [_], _ => rfl⟩
  have F17 := fun_mk (st := sBeside) l17 c17 k17
  have D17 : Df K mg "_law_beside" ["_law_hand_here", "_law_parts_here"] sBeside f17 _ := ⟨F17, PySem.W.mg_of X G a17, F17.binds (ps := ["_law_hand_here", "_law_parts_here"]) fun _ _ _ _ _ _ us hl => match us, hl with | [_, _], _ => rfl⟩
  have F18 := fun_mk (st := sMay) l18 c18 k18
  have D18 : Df K mg "_law_may" ["_law_one", "_law_other"] sMay f18 _ := ⟨F18, PySem.W.mg_of X G a18, F18.binds (ps := ["_law_one", "_law_other"]) fun _ _ _ _ _ _ us hl => match us, hl with | [_, _], _ => rfl⟩
  have F19 := fun_mk (st := sRight) l19 c19 k19
  have D19 : Df K mg "_law_right" ["_law_hand_here"] sRight f19 _ := ⟨F19, PySem.W.mg_of X G a19, F19.binds (ps := ["_law_hand_here"]) fun _ _ _ _ _ _ us hl => match us, hl with | [_], _ => rfl⟩
  have F20 := fun_mk (st := sLaw) l20 c20 k20
  have D20 : Df K mg "law" ["_law_script"] sLaw fa _ := ⟨F20, PySem.W.mg_of X G a20, F20.binds (ps := ["_law_script"]) fun _ _ _ _ _ _ us hl => match us, hl with | [_], _ => rfl⟩
  have FI : FunD K "__init__" "Day.__init__" (defArgs sInit) (defBody sInit) (defScope sInit) [.non, .non] [] fI _ :=
    ⟨⟨_, _, _, _, _, _, _, _, _, _, rfl, lI, cI, .inr ⟨by simp, tI, _, [Value.none, Value.none], _, rfl, lT, rfl, .cons rfl (.cons rfl .nil)⟩, .inl rfl⟩, kI⟩
  refine ⟨PySem.W.fnOf "law" "law" (defArgs sLaw) (defBody sLaw) (defScope sLaw) .none kV20 dc20 pm20 an20 cd20 ct20, fun s v => .of_eq rfl, fun base kb gb => ?g⟩
  case g =>
    have c0 := D0.ca (ok_whole (P := l.prog) (w := w) (base := base) D0 T)
    have c1 := D1.ca (ok_within D1 T c0)
    have c2 := D2.ca (ok_leap (P := l.prog) (w := w) (base := base) D2)
    have c3 := D3.ca (ok_daysIn D3 T c2)
    have c4 := D4.ca (ok_makes D4 T c1 c3)
    have mD : Ma l.prog w K mg base 4 "Day" C ["self", "year", "month", "day"] (spInit C) := ⟨fI, _, ⟨mk, aI, iI, kc⟩, ok_init FI T c4, T.mgC, init_binds FI⟩
    have c5 := D5.ca (ok_earliest D5 T mD)
    have c6 := D6.ca (ok_latest D6 T mD c3)
    have c7 := D7.ca (ok_alike (P := l.prog) (w := w) (base := base) D7)
    have c8 := D8.ca (ok_mayBe D8 T c7)
    have c9 := D9.ca (ok_hand (P := l.prog) (w := w) (base := base) D9 T)
    have c10 := D10.ca (ok_take (P := l.prog) (w := w) (base := base) D10)
    have c11 := D11.ca (ok_pick D11 T c10)
    have c12 := D12.ca (ok_last (P := l.prog) (w := w) (base := base) D12)
    have c13 := D13.ca (ok_parts D13 c10 c11 c12)
    have c14 := D14.ca (ok_of (P := l.prog) (w := w) (base := base) D14 mD)
    have c15 := D15.ca (ok_told (P := l.prog) (w := w) (base := base) D15 T)
    have c16 := D16.ca (ok_ends D16 c12)
    have c17 := D17.ca (ok_beside D17 T c10 c11 c13)
    have c18 := D18.ca (ok_may (P := l.prog) (w := w) (base := base) D18 T)
    exact ok_law D20 T c9 D19 (ok_right D19 T c13 c14 c16 c5 c6 c15 c8 c17 c18)
end K3
open PySem PySem.W PyProof.Rows
set_option maxRecDepth 100000 in
set_option maxHeartbeats 0 in
theorem PySem.Challenge.cw_takesworks_k03_what_days_may_be_holds : PySem.Challenge.rw_takesworks_k03_what_days_may_be.Holds := by
  w_on; o_law; k_head; (case hw => w_witness2)
  k_fill
  refine K3.walk_go (l := PySem.Challenge.rw_takesworks_k03_what_days_may_be) (n := 63) (k := 8) (x := "_law_script") (sp := K3.spLaw) rfl (by decide) rfl ⟨rfl, by decide, by decide⟩ (fun w h Y => PySem.W.kIn_of Y) ?F
    (fun _ _ a ns hl hS => ⟨a, ns, rfl, hS, hl, fun _ => rfl⟩)
  case F =>
    intro w mg fa h KX G hmg
    refine' K3.all_mk KX G hmg ?a0 ?l0 ?c0 ?k0 ?a1 ?l1 ?c1 ?k1 ?a2 ?l2 ?c2 ?k2 ?a3 ?l3 ?c3 ?k3 ?a4 ?l4 ?c4 ?k4 ?a5 ?l5 ?c5 ?k5 ?a6 ?l6 ?c6 ?k6 ?a7 ?l7 ?c7 ?k7 ?a8 ?l8 ?c8 ?k8 ?a9 ?l9 ?c9 ?k9 ?a10 ?l10 ?c10 ?k10 ?a11 ?l11 ?c11 ?k11 ?a12 ?l12 ?c12 ?k12 ?a13 ?l13 ?c13 ?k13 ?a14 ?l14 ?c14 ?k14 ?a15 ?l15 ?c15 ?k15 ?a16 ?l16 ?c16 ?k16 ?a17 ?l17 ?c17 ?k17 ?a18 ?l18 ?c18 ?k18 ?a19 ?l19 ?c19 ?k19 ?a20 ?l20 ?c20 ?k20 ?aC ?aI ?iI ?lI ?cI ?kI ?lT ?pg ?hd ?po ?sa ?mk ?kc ?nY ?nMo ?nD ?ha ?hn ?ht ?hm ?gY ?gO ?gF ?gM ?lM ?z_isinstance ?z_int ?z_bool ?z_len ?z_abs ?z_max ?z_min ?z_all ?z_zip ?z_range ?z_repr
    (case a0 => k_is)
    (case l0 => k_is)
    (case c0 => k_is)
    (case k0 => k_is)
    (case a1 => k_is)
    (case l1 => k_is)
    (case c1 => k_is)
    (case k1 => k_is)
    (case a2 => k_is)
    (case l2 => k_is)
    (case c2 => k_is)
    (case k2 => k_is)
    (case a3 => k_is)
    (case l3 => k_is)
    (case c3 => k_is)
    (case k3 => k_is)
    (case a4 => k_is)
    (case l4 => k_is)
    (case c4 => k_is)
    (case k4 => k_is)
    (case a5 => k_is)
    (case l5 => k_is)
    (case c5 => k_is)
    (case k5 => k_is)
    (case a6 => k_is)
    (case l6 => k_is)
    (case c6 => k_is)
    (case k6 => k_is)
    (case a7 => k_is)
    (case l7 => k_is)
    (case c7 => k_is)
    (case k7 => k_is)
    (case a8 => k_is)
    (case l8 => k_is)
    (case c8 => k_is)
    (case k8 => k_is)
    (case a9 => k_is)
    (case l9 => k_is)
    (case c9 => k_is)
    (case k9 => k_is)
    (case a10 => k_is)
    (case l10 => k_is)
    (case c10 => k_is)
    (case k10 => k_is)
    (case a11 => k_is)
    (case l11 => k_is)
    (case c11 => k_is)
    (case k11 => k_is)
    (case a12 => k_is)
    (case l12 => k_is)
    (case c12 => k_is)
    (case k12 => k_is)
    (case a13 => k_is)
    (case l13 => k_is)
    (case c13 => k_is)
    (case k13 => k_is)
    (case a14 => k_is)
    (case l14 => k_is)
    (case c14 => k_is)
    (case k14 => k_is)
    (case a15 => k_is)
    (case l15 => k_is)
    (case c15 => k_is)
    (case k15 => k_is)
    (case a16 => k_is)
    (case l16 => k_is)
    (case c16 => k_is)
    (case k16 => k_is)
    (case a17 => k_is)
    (case l17 => k_is)
    (case c17 => k_is)
    (case k17 => k_is)
    (case a18 => k_is)
    (case l18 => k_is)
    (case c18 => k_is)
    (case k18 => k_is)
    (case a19 => k_is)
    (case l19 => k_is)
    (case c19 => k_is)
    (case k19 => k_is)
    (case a20 => k_is)
    (case l20 => k_is)
    (case c20 => k_is)
    (case k20 => k_is)
    (case aC => k_is)
    (case aI => k_is)
    (case iI => k_is)
    (case lI => k_is)
    (case cI => k_is)
    (case kI => k_is)
    (case lT => k_is)
    (case pg => k_is)
    (case hd => k_is)
    (case po => k_is)
    (case sa => k_is)
    (case mk => k_is)
    (case kc => k_is)
    (case nY => k_is)
    (case nMo => k_is)
    (case nD => k_is)
    (case ha => k_is)
    (case hn => k_is)
    (case ht => k_is)
    (case hm => k_is)
    (case gY => k_is)
    (case gO => k_is)
    (case gF => k_is)
    (case gM => k_is)
    (case lM => k_is)
    (case z_isinstance => k_is)
    (case z_int => k_is)
    (case z_bool => k_is)
    (case z_len => k_is)
    (case z_abs => k_is)
    (case z_max => k_is)
    (case z_min => k_is)
    (case z_all => k_is)
    (case z_zip => k_is)
    (case z_range => k_is)
    (case z_repr => k_is)
