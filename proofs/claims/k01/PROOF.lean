import PyProof.Rows.All
import Wide.All
import OpenK.AllK
import Wide.FinOn
import HandS.ForMost
import HandS.Wide
import HandS.Flow
import HandS.IsInst
import HandS.Codes
import HandS.TupLe
import HandS.Zip
import HandS.Walk
import HandS.FStrTup
import HandS.RaiseMore
import PyProof.ReprRoads
import HandS.OwnEq
import HandS.Defaults
import KE.KCallOwn
import HandS.FStr
import HandS.MakeKw
import HandS.MakeKwOnly
import PySem.Challenge.RW_takesworks_k01_days_told
set_option Elab.async false
set_option linter.all false
set_option maxRecDepth 100000
set_option maxHeartbeats 4000000
namespace K1
open PySem PySem.Spec PyProof.Rows L2

/-! ## defs that show things: promises where no showing is under way -/
structure Gn (P : Program) (w : World) (K : PySem.W.Frag) (mg : Str → Option Value) (base : Heap) (k : Nat) (f : Addr) (fd : FuncData) (ps : List Str) (sp : Sp) : Prop where
  many : ∀ vs H Q E, sp vs H Q E → vs.length = ps.length
  go : ∀ (A : Around) (outer : List Env) (s : Shared) (H : Hp) (args : Args) (us : List Value) (vs : List V) (Q : VK) (E : XK), A.guards = some [] → Room k A →
    Env0 P w K mg base A outer s H → BindsTo s fd args (ps.zip us) → Vals vs us → sp vs H Q E → codeAny (model P w) A (.call (.ref f) args) (CR CX0 outer P w H s Q E) s

section
variable {P : Program} {w : World} {K : PySem.W.Frag} {mg : Str → Option Value} {base : Heap}

theorem gn_body {x qual : Str} {st : Stmt} {f : Addr} {fd : FuncData} {N ps : List Str} {k : Nat} {sp : Sp} (F : Fun K x qual st f fd) (S : FnScope N ps (defScope st))
    (many : ∀ vs H Q E, sp vs H Q E → vs.length = ps.length)
    (body : ∀ (cdv : Value) (A : Around) (outer : List Env) (s : Shared) (H : Hp) (vs : List V) (Q : VK) (E : XK), A.guards = some [] →
      Room k (A.deeper (envOfC qual (defScope st) s.heap.objs.size f cdv)) → sp vs H Q E →
      ∃ t, PSs (cxOf CX0 P w K mg base N qual (defScope st) f cdv A outer s H E).nox (defBody st) t ∧ t { nx := fun _ H' => Q .non H', rt := Q } (start N vs) H) :
    Gn P w K mg base (k + 1) f fd ps sp := by
  obtain ⟨oc, od, kV, doc, pm, an, cdv, ct, osl, rfl, lk, hcd⟩ := F.ex
  refine ⟨many, fun A outer s H args us vs Q E hg room en bd rv hsp => ?_⟩
  have kin : K.In s.heap := en.mod.kin.keeps fun b o q => (en.bs b o q).1
  refine Att.call_fn kin (en.mod.nolimit.keeps fun b o q => (en.bs b o q).1) lk hcd room.depth bd ?_ (fun s1 inc => ?_) S.co S.gen S.kind
  · refine List.all_eq_true.mpr fun y hy => ?_
    rcases S.par y.1 (List.of_mem_zip (a := y.1) (b := y.2) hy).1 with q | q
    · rw [q]; rfl
    · rw [q]; rfl
  · obtain ⟨t, ht, hq⟩ := body cdv A outer s H vs Q E hg (room.deeper _) hsp
    have I := inv_start (CX := CX0) (E := E) S room.hd en (many _ _ _ _ hsp) rv inc
    refine wpAny_mono (ht.nox.run [] s1 _ H _ I hq) (fun fl s' hs => ?_) fun _ _ z => z
    cases fl with
    | ret u =>
      obtain ⟨v, _, H', J, r, q⟩ := hs
      exact ⟨v, H', J.os, J.bare, J.base, J.hok, r, q⟩
    | next =>
      obtain ⟨_, H', J, q⟩ := hs
      exact ⟨.non, H', J.os, J.bare, J.base, J.hok, rfl, q⟩
    | brk =>
      obtain ⟨_, _, _, z⟩ := hs
      exact False.elim z
    | cont =>
      obtain ⟨_, _, _, z⟩ := hs
      exact False.elim z

end
section
variable {X : Cx} {k : Nat} {f : Addr} {fd : FuncData} {ps : List Str} {sp : Sp} {x : Str} {p pos : Pos} {e : Expr} {es : List Expr} {t : TA}

theorem pe_gn (F : Gn X.prog X.w X.K X.mg X.base k f fd ps sp) (quiet : X.A.guards = some []) (room : Room k X.A) (gl : Gl X x) (mgf : X.mg x = some (.ref f))
    (kp : PySem.W.keepIn X.K (.ref f) = true) (bd : Binds X.K fd ps []) (ha : PA X (e :: es) t) (hdb : (x == ("__debug__" : Str)) = false := by decide)
    (he : starEach (e :: es) X.env = (false, eval e X.env) :: starEach es X.env := by rfl) (hpl : (backTo pos (starEach es X.env)).any (·.1) = false := by rfl) :
    PE X (.Call (.Name x p) (e :: es) [] pos) (tCall sp [] E0 t) := by
  refine ⟨fun pins s σ H Q I h => wpAny_Call_Name_kw (ld_glob I gl mgf ?_ hdb)⟩
  refine PySem.W.callWith_K (h₀ := X.base) I.ok.mod.kin kp ?_ he hpl
  refine thn (ha.run pos pins s σ H _ I h) fun us s1 z => ?_
  obtain ⟨vs, H1, I1, rv, q⟩ := z
  have q' : sp vs H1 Q E0 := by
    have z := q
    rw [List.append_nil] at z
    exact z
  have many : us.length = ps.length := rv.length.symm.trans (F.many _ _ _ _ q')
  have b1 := bd s1 us I1.kIn (by rw [List.append_nil]; exact many)
  rw [List.append_nil] at b1
  refine ⟨I1.kIn, wpAny_call (codeAny_mono (F.go X.A X.stack s1 H1 ⟨us, []⟩ us vs Q E0 quiet room I1.env0 b1 rv q') fun r s' hr => ?_)⟩
  cases r with
  | error z => exact False.elim hr
  | ok fl =>
    cases fl with
    | ret u => exact I1.after hr
    | next => exact False.elim hr
    | brk => exact False.elim hr
    | cont => exact False.elim hr

/-- repr of data at any depth -/
theorem cr_reprD (quiet : X.A.guards = some []) (room : Room k X.A) : CallR X (.builtin "repr") (fun xs H Q => ∃ (a : Addr) (d : PyData), xs = [.ref a] ∧ Dp X.K H (.ref a) d ∧ d.showable = true ∧ d.hasDict = false ∧
    d.depth ≤ 50 ∧ d.shown.length ≤ sizeLine ∧ Q (.str d.shown) H) := by
  intro pins s σ H xs us Q I r h
  obtain ⟨a, d, rfl, hd, hs, hn, hp, hz, q⟩ := h
  obtain ⟨u, rfl, rx⟩ := vals1 r
  obtain ⟨as, rd⟩ := Dp.reads I d _ u hd rx
  cases rx
  have hu := room.units
  exact repr_of_reads' rd hs (fun z => absurd (hn.symm.trans z) Bool.false_ne_true) quiet (by omega) (fun _ _ z => z) (fun h' u tk kept => ⟨.str d.shown, H, I.kept kept, ⟨u, rfl⟩, q⟩) hz
theorem cr_repr_bl : CallR X (.builtin "repr") (fun xs H Q => ∃ b : Bool, xs = [.bl b] ∧ Q (.str (if b then "True" else "False")) H) := by
  intro pins s σ H xs us Q I r h
  obtain ⟨b, rfl, q⟩ := h
  obtain ⟨u, rfl, rx⟩ := vals1 r
  cases rx
  exact PySem.P.repr_of_bool ⟨.str _, H, I.tok _, ⟨_, rfl⟩, q⟩
end
end K1
namespace K1
open PySem PySem.Spec PyProof.Rows L2

theorem law_go {P : Program} {w : World} {K : PySem.W.Frag} {mg mb : Str → Option Value} {k : Nat} {fa a : Addr} {fd : FuncData} {x : Str} {sp : Sp} {z : Shared} {vs : List Value} {ns : List Int}
    (kin : K.In z.heap) (nsG : z.heap.Ns mainGlobals mg) (nsB : z.heap.Ns builtinsNs mb) (same : ∀ y : Str, y ≠ "__name__" → mb y = bootBuiltins y) (lim : z.heap.NoLimit) (dig : z.heap.NoDigits) (no : z.gens = #[])
    (at_ : z.heap.get? a = some { cls := .type "list", data := .seq vs.toArray }) (intsA : IntsAre vs ns) (many : ns.length ≤ sizeLine) (room : Room k callerA)
    (F : ∀ base : Heap, K.In base → base.Ns mainGlobals mg → base.NoDigits → Gn P w K mg base k fa fd [x] sp) (bind : ∀ (s : Shared) (u : Value), BindsTo s fd ⟨[u], []⟩ [(x, u)])
    (hsp : ∀ H : Hp, SqL K H a (ns.map V.int) → sp [.ref a] H (fun v _ => v = .bl true) fun _ _ _ => False) :
    codeAny (model P w) callerA (.call (.ref fa) ⟨[.ref a], []⟩) (fun r s' => r = .ok (.ret (.bool true)) ∧ OldK z.heap s'.heap ∧ s'.os = z.os ∧ AllBare s'.gens) z := by
  have rv : Vals (ns.map V.int) vs := vals_ints intsA
  have sz : (ns.map V.int).length ≤ sizeLine := by rw [List.length_map]; exact many
  -- what is tracked: the script, unless it is the module's own
  let u : HO := .frz { cls := .type "list", data := .seq vs.toArray } (.lst (ns.map V.int))
  let H : Hp := fun b => if b = a ∧ K.lookup a = none then some u else none
  have only : ∀ b o, H b = some o → b = a ∧ K.lookup a = none ∧ o = u := fun b o e => by
    by_cases c : b = a ∧ K.lookup a = none
    · have e2 : H b = some u := if_pos c
      rw [e2] at e
      exact ⟨c.1, c.2, (Option.some.inj e).symm⟩
    · have e2 : H b = none := if_neg c
      rw [e2] at e
      cases e
  have sq : SqL K H a (ns.map V.int) := by
    cases hk : K.lookup a with
    | none => exact .inl (.inr ⟨_, if_pos ⟨rfl, hk⟩⟩)
    | some o =>
      have e := kin a o hk
      rw [at_] at e
      cases e
      exact .inr ⟨_, vs.toArray, _, hk, rfl, rfl, rfl, by rw [List.size_toArray, ← rv.length]; exact sz, by simpa using rv⟩
  have hok : HOk P w H z.heap := fun b o e => by
    obtain ⟨rfl, _, rfl⟩ := only b o e
    exact ⟨at_, sz, vs, _, rv, at_⟩
  have dictFree : ∀ {b : Addr} {o : Obj} {es : Array DictEntry} {ep : Nat}, z.heap.get? b = some o → o.data = .dict es ep → H b = none := fun {b o es ep} e d => by
    cases q : H b with
    | none => rfl
    | some v =>
      obtain ⟨rfl, _, _⟩ := only b v q
      rw [at_] at e
      cases e
      cases (show Data.seq vs.toArray _ = Data.dict es ep from d)
  have nsK : ∀ {b : Addr} {m : Str → Option Value}, z.heap.Ns b m → (hidT z.heap H).Ns b m := fun {b m} q => by
    obtain ⟨o, es, ep, e, d, r⟩ := q
    exact ⟨o, es, ep, hidT_get e (dictFree e d), d, r⟩
  have kb : K.In (hidT z.heap H) := fun b o e => by
    refine hidT_get (kin b o e) ?_
    cases q : H b with
    | none => rfl
    | some v =>
      obtain ⟨rfl, n, _⟩ := only b v q
      rw [n] at e
      cases e
  have limB : (hidT z.heap H).NoLimit := by
    obtain ⟨mc, h1, h2⟩ := lim
    exact ⟨mc, nsK h1, h2⟩
  have digB : (hidT z.heap H).NoDigits := by
    obtain ⟨mc, h1, h2⟩ := dig
    exact ⟨mc, nsK h1, h2⟩
  have en : Env0 P w K mg (hidT z.heap H) callerA [] z H :=
    ⟨rfl, ⟨kb, nsK nsG, ⟨mb, nsK nsB, same⟩, limB⟩, fun _ _ e => of_hidT e, Nat.le_of_eq (hidT_size _ _), trivial, (fun b hb => absurd (show b ∈ ([] : List Addr) from hb) List.not_mem_nil), hok, .of_eq no⟩
  refine codeAny_mono ((F _ kb (nsK nsG) digB).go callerA [] z H ⟨[.ref a], []⟩ [.ref a] [.ref a] _ _ rfl room en (bind z (.ref a)) (.cons rfl .nil) (hsp H sq)) fun r s' h => ?_
  match r, h with
  | .error e, h => exact False.elim h
  | .ok .next, h => exact False.elim h
  | .ok .brk, h => exact False.elim h
  | .ok .cont, h => exact False.elim h
  | .ok (.ret y), h =>
    obtain ⟨v, H', os, bare, un, hok', r', q⟩ := h
    obtain rfl : v = .bl true := q
    obtain rfl : y = Value.bool true := r'
    refine ⟨rfl, OldK.of_keep fun b o e => ?_, os, bare⟩
    cases q : H b with
    | none => exact un.keep b o e q (fun y => by cases y) (fun y => by cases y)
    | some v =>
      obtain ⟨rfl, _, rfl⟩ := only b v q
      have e2 := (hok' _ _ (un.frzs _ _ _ q)).1
      rw [at_] at e
      cases e
      exact e2

theorem walk_go {l : PySem.W.OpenLaw} {n k : Nat} {q : Program} {loose : List Str} {XP : (Str → Option Value) → Heap → Prop} {YP : World → Heap → Prop} {d : DefRec} {K : Params → PySem.W.Frag} {sp : PySem.W.Frag → Sp} {x : Str}
    (most : l.most = some n) (small : n ≤ sizeLine) (nodef : d.params.defaults = []) (room : Room k callerA) (hY : ∀ (w : World) (h : Heap), YP w h → (K w.params).In h)
    (F : ∀ (w : World) (mg : Str → Option Value) (fa : Addr) (h : Heap), (K w.params).In h → h.Ns mainGlobals mg → mg d.name = some (.ref fa) →
      ∃ fd : FuncData, (∀ (s : Shared) (u : Value), BindsTo s fd ⟨[u], []⟩ [(x, u)]) ∧ ∀ base : Heap, (K w.params).In base → base.Ns mainGlobals mg → base.NoDigits →
        Gn l.prog w (K w.params) mg base k fa fd [x] (sp (K w.params)))
    (hsp : ∀ (K : PySem.W.Frag) (H : Hp) (a : Addr) (ns : List Int), ns.length ≤ n → SqL K H a (ns.map V.int) → sp K [.ref a] H (fun v _ => v = .bl true) fun _ _ _ => False) :
    PySem.W.WalkO q loose XP YP l.row.toRowW d [] (fun f vs => PySem.call f vs) := by
  refine Att.attach_call most nodef fun w s₀ s₁ mg mb fa o pm cd doc a vs ns G Y _ _ _ hmg hobj hints hlen hg => ?_
  have kin := hY w _ Y
  obtain ⟨fd, hb, hF⟩ := F w mg fa _ kin G.T.g hmg
  exact law_go kin G.T.g G.T.b G.T.builtins G.T.nolimit G.T.nodigits hg hobj hints (Nat.le_trans hlen small) room hF hb fun H hS => hsp _ H a ns hlen hS
end K1
namespace K1
open PySem PySem.Spec PyProof.Rows L2

/-! ## == by a class's own __eq__, either way about -/
/-- what the written part says of the class -/
structure OwnC (K : PySem.W.Frag) (C f : Addr) : Prop where
  eq : PySem.W.findIn K (.ref C) "__eq__" = some (some (.ref f))
  fn : PySem.W.isFn K (.ref f) = true
  ne : PySem.W.findIn K (.ref C) "__ne__" = some (some (.builtin "object.__ne__"))
  mo : PySem.W.mroIn K C (.type "object") = some true
  sInt : PySem.W.subIn K (.ref C) (.type "int") = some false
  sStr : PySem.W.subIn K (.ref C) (.type "str") = some false
  sNon : PySem.W.subIn K (.ref C) (.type "NoneType") = some false
  sTup : PySem.W.subIn K (.ref C) (.type "tuple") = some false
  sLst : PySem.W.subIn K (.ref C) (.type "list") = some false

section
variable {X : Cx} {pins : List (Addr × Obj)} {σ : L2.St} {H : Hp} {n : Nat} {f C : Addr} {fd : FuncData} {ps : List Str} {sp : Sp}
/-- the end of such a comparison: a truth -/
def BP (X : Cx) (pins : List (Addr × Obj)) (σ : L2.St) (Q : Bool → Hp → Prop) (u : Value) (s' : Shared) : Prop := ∃ b H', u = .bool b ∧ Inv X pins σ H' s' ∧ Q b H'

theorem own_call {A : Around} {s : Shared} {a : Addr} {y : V} {v : Value} {Q : Bool → Hp → Prop} {E : Value → Shared → Prop} (fr : A.frames = some X.stack) (room : Room n A) (F : FnOk X.prog X.w X.K X.mg X.base CX0 n f fd ps sp) (bd : Binds X.K fd ps [])
    (I : Inv X pins σ H s) (rv : RelV y v) (hsp : sp [.ref a, y] H (fun z H' => ∃ b, z = .bl b ∧ Q b H') E0) : wpAny (model X.prog X.w) A (call (.ref f) [.ref a, v]) (BP X pins σ Q) E s := by
  have en : Env0 X.prog X.w X.K X.mg X.base A X.stack s H := by
    have z := I.env0
    exact ⟨fr, z.mod, z.bs, z.bsz, z.funs, z.frf, z.hok, z.bare⟩
  have hl : [V.ref a, y].length = ps.length := F.len _ _ _ _ hsp
  have b1 := bd s [.ref a, v] I.kIn (by simpa using hl)
  rw [List.append_nil] at b1
  refine wpAny_call (codeAny_mono (F.run A X.stack s H ⟨[.ref a, v], []⟩ [.ref a, v] [.ref a, y] _ E0 room en b1 (.cons rfl (.cons rv .nil)) hsp) fun r s2 hr => ?_)
  match r, hr with
  | .error z, hr => exact False.elim hr
  | .ok .next, hr => exact False.elim hr
  | .ok .brk, hr => exact False.elim hr
  | .ok .cont, hr => exact False.elim hr
  | .ok (.ret u), hr =>
    obtain ⟨z, H2, I2, rz, b, rfl, q⟩ := I.after hr
    cases rz
    exact ⟨b, H2, rfl, I2, q⟩

theorem rc_L {A : Around} {s : Shared} {a dx : Addr} {fs : List (Str × V)} {y : V} {v tb : Value} {Q : Bool → Hp → Prop} {E : Value → Shared → Prop} (W : OwnC X.K C f) (fr : A.frames = some X.stack) (room : Room n A)
    (F : FnOk X.prog X.w X.K X.mg X.base CX0 n f fd ps sp) (bd : Binds X.K fd ps []) (I : Inv X pins σ H s) (ha : H a = some (.ins C dx fs)) (rv : RelV y v) (hb : PySem.W.Looks (model X.prog X.w) s.heap (typeOf v) tb)
    (nf : PySem.W.notFirst X.K C tb = true) (hsp : sp [.ref a, y] H (fun z H' => ∃ b, z = .bl b ∧ Q b H') E0) : wpAny (model X.prog X.w) A (richCompare .Eq (.ref a) v) (BP X pins σ Q) E s := by
  obtain ⟨mA, J, _⟩ := ins_get I.hok ha
  obtain ⟨od, J, _⟩ := J.look
  obtain ⟨m, hF⟩ := I.fr
  refine PySem.W.cmp_K (op := .Eq) room.units0 hF I.ok.mod.kin J hb nf W.eq W.fn (wpAny_mono (own_call fr room F bd I rv hsp) (fun u s' hu => ?_) fun _ _ z => z)
  obtain ⟨b, H', rfl, I', q⟩ := hu
  exact ⟨b, H', rfl, I', q⟩

/-- a builtin's own == has no answer, then the class's own is asked -/
theorem rc_R {A : Around} {s : Shared} {a dx : Addr} {fs : List (Str × V)} {y : V} {v : Value} {T id : String} {Q : Bool → Hp → Prop} {E : Value → Shared → Prop} (W : OwnC X.K C f) (fr : A.frames = some X.stack) (room : Room n A)
    (F : FnOk X.prog X.w X.K X.mg X.base CX0 n f fd ps sp) (bd : Binds X.K fd ps []) (I : Inv X pins σ H s) (ha : H a = some (.ins C dx fs)) (rv : RelV y v) (hT : s.TypeIs v T) (one : oneThing? .Eq v (.ref a) = none)
    (sub : PySem.W.subIn X.K (.ref C) (.type T) = some false) (slot : Slot T "__eq__" id) (dec : ∀ E', wpAny (model X.prog X.w) A (call (.builtin id) [v, .ref a]) (fun u s' => u = .notImplemented ∧ s' = s) E' s)
    (hsp : sp [.ref a, y] H (fun z H' => ∃ b, z = .bl b ∧ Q b H') E0) : wpAny (model X.prog X.w) A (richCompare .Eq v (.ref a)) (BP X pins σ Q) E s := by
  obtain ⟨mA, J, _⟩ := ins_get I.hok ha
  obtain ⟨od, J, _⟩ := J.look
  have two : wpAny (model X.prog X.w) A (tryCompare (.ref a) "__eq__" v) (fun r s' => ∃ u, r = some u ∧ BP X pins σ Q u s') E s := by
    unfold tryCompare
    refine wpAny_bind (PySem.W.ifBound_K I.kIn J W.eq W.fn (wpAny_mono (own_call fr room F bd I rv hsp) (fun u s' hu => ?_) fun _ _ z => z))
    obtain ⟨b, H', rfl, I', q⟩ := hu
    exact wpAny_pure ⟨_, rfl, b, H', rfl, I', q⟩
  have first : wpAny (model X.prog X.w) A (tryCompare v "__eq__" (.ref a)) (fun r s' => r = none ∧ s' = s) E s :=
    wpAny_tryCompare_declines hT slot (wpAny_mono (dec E) (fun u s' z => ⟨z.1, rfl, z.2⟩) fun _ _ z => z)
  simp only [richCompare, cmpInfo_Eq, one]
  refine wpAny_holding (wpAny_bind (wpAny_cRoomFor room.units0 ?_))
  refine wpAny_bind (wpAny_typeOf hT (wpAny_bind (J.type.here ?_)))
  split
  · refine wpAny_bind ((PySem.W.looks_subIn I.kIn sub).here ?_)
    simp only [Bool.false_eq_true, if_false, Bool.not_false, if_true]
    refine wpAny_bind (m := tryCompare v _ (.ref a)) (wpAny_mono first (fun r s1 z => ?_) fun _ _ e => e)
    obtain ⟨z1, z2⟩ := z
    subst z1
    subst z2
    refine wpAny_bind (m := tryCompare (.ref a) _ v) (wpAny_mono two (fun r s2 z => ?_) fun _ _ e => e)
    obtain ⟨u, rfl, q⟩ := z
    exact wpAny_pure q
  · rename_i q
    exact absurd (by simp) q
end
end K1
namespace K1
open PySem PySem.Spec PyProof.Rows L2
section
variable {prog : Program} {w : World} {A : Around} {E : Value → Shared → Prop} {s : Shared} {a C dx : Addr} {K : PySem.W.Frag} {ox : Obj} {od : Option Obj}
theorem dec_none : wpAny (model prog w) A (call (.builtin "NoneType.__eq__") [.none, .ref a]) (fun u s' => u = .notImplemented ∧ s' = s) E s := by
  refine GQ.call_here F.slot_NoneType_eq (T := "NoneType") rfl F.entry_NoneType_eq (F.args_NoneType_eq_2 _ _) ?_
  wp_walk
  exact ⟨rfl, rfl⟩
theorem dec_int {i : Int} {t : Tok} (ho : s.heap.get? a = some (PySem.W.instObj C dx)) : wpAny (model prog w) A (call (.builtin "int.__eq__") [.int i t, .ref a]) (fun u s' => u = .notImplemented ∧ s' = s) E s := by
  refine GQ.call_here F.slot_int_eq (typeIs_int _ _ _) F.entry_int_eq (F.args_int_eq_2 _ _) ?_
  wp_walk using wpAny_load ho
  exact ⟨rfl, rfl⟩
theorem dec_str {i : Str} {t : Tok} (ho : s.heap.get? a = some (PySem.W.instObj C dx)) : wpAny (model prog w) A (call (.builtin "str.__eq__") [.str i t, .ref a]) (fun u s' => u = .notImplemented ∧ s' = s) E s := by
  refine GQ.call_here F.slot_str_eq (typeIs_str _ _ _) F.entry_str_eq (F.args_str_eq_2 _ _) ?_
  wp_walk using wpAny_load ho
  exact ⟨rfl, rfl⟩
theorem isi_no {T : String} {Q : Bool → Shared → Prop} (J : PySem.W.InstAt s.heap a ox C od) (kin : K.In s.heap) (sub : PySem.W.subIn K (.ref C) (.type T) = some false) (h : Q false s) : wpAny (model prog w) A (isInstance (.ref a) (.type T)) Q E s := by
  unfold isInstance
  exact wpAny_bind (J.type.here ((PySem.W.looks_subIn kin sub).here h))
theorem dec_tup {t : Addr} (hT : s.TypeIs (.ref t) "tuple") (J : PySem.W.InstAt s.heap a ox C od) (kin : K.In s.heap) (sub : PySem.W.subIn K (.ref C) (.type "tuple") = some false) :
    wpAny (model prog w) A (call (.builtin "tuple.__eq__") [.ref t, .ref a]) (fun u s' => u = .notImplemented ∧ s' = s) E s := by
  refine GQ.call_here F.slot_tuple_eq hT F.entry_tuple_eq (F.args_tuple_eq_2 _ _) ?_
  wp_walk using isi_no J kin sub
  exact ⟨rfl, rfl⟩
theorem dec_lst {t : Addr} (hT : s.TypeIs (.ref t) "list") (J : PySem.W.InstAt s.heap a ox C od) (kin : K.In s.heap) (sub : PySem.W.subIn K (.ref C) (.type "list") = some false) :
    wpAny (model prog w) A (call (.builtin "list.__eq__") [.ref t, .ref a]) (fun u s' => u = .notImplemented ∧ s' = s) E s := by
  refine GQ.call_here F.slot_list_eq hT F.entry_list_eq (F.args_list_eq_2 _ _) ?_
  wp_walk using isi_no J kin sub
  exact ⟨rfl, rfl⟩
end
section
variable {X : Cx} {pins : List (Addr × Obj)} {σ : L2.St} {H : Hp} {n : Nat} {f C : Addr} {fd : FuncData} {ps : List Str} {sp : Sp}
/-- != of two instances -/
theorem rc_N {A : Around} {s : Shared} {a dx : Addr} {fs : List (Str × V)} {y : V} {v tb : Value} {Q : Bool → Hp → Prop} {E : Value → Shared → Prop} (W : OwnC X.K C f) (fr : A.frames = some X.stack) (room : Room (n + 1) A)
    (F : FnOk X.prog X.w X.K X.mg X.base CX0 n f fd ps sp) (bd : Binds X.K fd ps []) (I : Inv X pins σ H s) (ha : H a = some (.ins C dx fs)) (rv : RelV y v) (hb : PySem.W.Looks (model X.prog X.w) s.heap (typeOf v) tb)
    (nf : PySem.W.notFirst X.K C tb = true) (hsp : sp [.ref a, y] H (fun z H' => ∃ b, z = .bl b ∧ Q (!b) H') E0) : wpAny (model X.prog X.w) A (richCompare .NotEq (.ref a) v) (BP X pins σ Q) E s := by
  obtain ⟨mA, J, _⟩ := ins_get I.hok ha
  obtain ⟨od, J, _⟩ := J.look
  have inner : wpAny (model X.prog X.w) A.in1 (Builtin.«object.__ne__» ⟨[.ref a, v], []⟩) (fun fl s' => ∃ u, fl = .done (.ret u) ∧ u ≠ .notImplemented ∧ BP X pins σ Q u s') E s := by
    unfold Builtin.«object.__ne__»
    refine wpAny_bind (m := slotArgs "__ne__" 1 _) (wpAny_pure ?_)
    dsimp only
    refine wpAny_bind (wpAny_cRoomFor room.in1.units0 ?_)
    refine wpAny_bind (PySem.W.ifBound_K I.kIn J W.eq W.fn (wpAny_mono (own_call (A := A.in1) fr room.in1 F bd I rv hsp) (fun u s' hu => ?_) fun _ _ z => z))
    obtain ⟨b, H', rfl, I', q⟩ := hu
    dsimp only
    refine wpAny_bind (m := truthy (.bool b)) (wpAny_truthy_bool ?_)
    exact wpAny_pure ⟨_, rfl, by simp, !b, H', rfl, I', q⟩
  have call_ : wpAny (model X.prog X.w) A (call (.builtin "object.__ne__") [.ref a, v]) (fun u s' => u ≠ .notImplemented ∧ BP X pins σ Q u s') E s := by
    refine wpAny_call (codeAny_call_builtin PySem.F.cmp_object.ne.plain PySem.F.cmpEntry_ne (PySem.W.check_slot PySem.F.cmpKind_ne PySem.F.cmpSplit_ne (J.type.andThen (PySem.W.looks_mroIn I.kIn W.mo)) (PySem.F.cmpArgs_ne _ _) (wpAny_mono inner (fun fl s' z => ?_) fun _ _ z => z)))
    obtain ⟨u, rfl, z1, z2⟩ := z
    exact ⟨z1, z2⟩
  have one : wpAny (model X.prog X.w) A (tryCompare (.ref a) "__ne__" v) (fun r s' => ∃ u, r = some u ∧ BP X pins σ Q u s') E s := by
    unfold tryCompare
    refine wpAny_bind ?_
    simp only [callSpecialIfBound?, bindSpecialIfBound?]
    refine wpAny_holding (wpAny_bind (wpAny_bind (wpAny_bind (J.type.here ((PySem.W.looks_findIn I.kIn W.ne).here ?_)))))
    refine wpAny_bind (wpAny_askSetting (wpAny_ite ?_))
    have fin : wpAny (model X.prog X.w) A (call (.builtin "object.__ne__") ([.ref a] ++ [v]) >>= fun z => pure (some z)) (fun r s1 => wpAny (model X.prog X.w) A (match r with
        | some .notImplemented => pure none
        | none => pure none
        | some z => pure (some z)) (fun r s' => ∃ u, r = some u ∧ BP X pins σ Q u s') E s1) E s := by
      refine wpAny_bind (wpAny_mono call_ (fun u s' z => wpAny_pure ?_) fun _ _ z => z)
      obtain ⟨z1, b, H', rfl, z2⟩ := z
      exact wpAny_pure ⟨_, rfl, b, H', rfl, z2⟩
    split
    · exact wpAny_bind (wpAny_of_eq (PySem.F.cmp_object.ne.bind _) (wpAny_pure (by exact fin)))
    · exact wpAny_tryCatch (wpAny_bind (wpAny_of_eq (PySem.F.cmp_object.ne.bind _) (wpAny_pure (by exact fin))))
  unfold richCompare
  simp only [oneThing_ref]
  refine wpAny_holding (wpAny_bind (wpAny_cRoomFor room.units0 ?_))
  refine wpAny_bind (J.type.here (wpAny_bind (hb.here ?_)))
  split
  · rename_i d
    have no : PySem.W.subIn X.K tb (.ref C) = some false := by
      rcases Bool.or_eq_true_iff.mp nf with z | z
      · rw [beq_iff_eq.mp z] at d
        simp at d
      · exact beq_iff_eq.mp z
    refine wpAny_bind ((PySem.W.looks_subIn I.kIn no).here ?_)
    simp only [Bool.false_eq_true, if_false]
    refine wpAny_bind (m := tryCompare (.ref a) _ v) (wpAny_mono one (fun r s' z => ?_) fun _ _ z => z)
    obtain ⟨u, rfl, q⟩ := z
    exact wpAny_pure q
  · refine wpAny_bind (wpAny_pure ?_)
    simp only [Bool.false_eq_true, if_false]
    refine wpAny_bind (m := tryCompare (.ref a) _ v) (wpAny_mono one (fun r s' z => ?_) fun _ _ z => z)
    obtain ⟨u, rfl, q⟩ := z
    exact wpAny_pure q
end
end K1
namespace K1
open PySem PySem.Spec PyProof.Rows L2
open AutoSeq1 (wpAny_loadPart')
section
variable {prog : Program} {w : World} {A : Around}
theorem in_loop {l x : Addr} {as : List Addr} {e : Addr → Bool} {J : Nat → Shared → Prop} {Y : Shared → Prop} {R : Result → Shared → Prop} (hl : ∀ i s, J i s → ∃ n, s.heap.get? l = some { cls := .type "list", data := .seq (as.map Value.ref).toArray n })
    (turn : ∀ i c s, as[i]? = some c → J i s → wpAny (model prog w) A.in1 (eqBool (.ref c) (.ref x)) (fun r s' => r = e c ∧ (e c = true → Y s') ∧ (e c = false → J (i + 1) s')) (fun z s' => R (.error z) s') s)
    (yes : ∀ s, Y s → R (.ok (.ret (.bool true))) s) (no : ∀ s, J as.length s → R (.ok (.ret (.bool false))) s) (k : Nat) :
    ∀ i : Nat, as.length - i = k → i ≤ as.length → ∀ s, J i s → wpAny (model prog w) A.in1 (Builtin.«list.__contains__.loop» ⟨[.ref l, .ref x, rawInt i], []⟩) (GQ.FinOf prog w A R) (fun z s' => R (.error z) s') s := by
  induction k with
  | zero =>
    intro i hk hi s h
    obtain ⟨n, e1⟩ := hl i s h
    have he : i = as.length := by omega
    have fin := no s (he ▸ h)
    obtain ⟨hp, g, d, tk, os⟩ := s
    wp_walk using wpAny_loadPart' e1
    have none_ : (as.map Value.ref).toArray[((i : Nat) : Int).toNat]? = none := by simp; omega
    rw [none_]
    wp_walk
    exact fin
  | succ k ih =>
    intro i hk hi s h
    obtain ⟨n, e1⟩ := hl i s h
    have lt : i < as.length := by omega
    have ht := turn i as[i] s (List.getElem?_eq_getElem lt) h
    obtain ⟨hp, g, d, tk, os⟩ := s
    wp_walk using wpAny_loadPart' e1
    have some_ : (as.map Value.ref).toArray[((i : Nat) : Int).toNat]? = some (.ref as[i]) := by simp [lt]
    have hc : ((i : Int) + 1) = ((i + 1 : Nat) : Int) := by omega
    rw [some_]
    refine wpAny_bind (wpAny_mono ht (fun r s2 h2 => ?_) fun _ _ z => z)
    obtain ⟨hr, h3, h4⟩ := h2
    subst hr
    cases hb : e as[i] with
    | true =>
      have y2 := yes s2 (h3 hb)
      obtain ⟨hp2, g2, d2, tk2, os2⟩ := s2
      wp_walk
      exact y2
    | false =>
      have rec_ := ih (i + 1) (by omega) (by omega) s2 (h4 hb)
      obtain ⟨hp2, g2, d2, tk2, os2⟩ := s2
      wp_walk
      rw [hc]
      exact ⟨plainId_quiet MeetsSeq.plain_contains_loop _, codeAny_builtin MeetsSeq.entry_contains_loop (by
        rw [Around.under_plainId MeetsSeq.plain_contains_loop _]
        exact rec_)⟩
end
section
variable {X : Cx} {n : Nat} {f C : Addr} {fd : FuncData} {ps : List Str} {sp : Sp}
/-- what is asked of the items and of what is looked for -/
structure InD (sp : Sp) (C : Addr) (H : Hp) (a l : Addr) (as : List Addr) (e : Addr → Bool) : Prop where
  ha : ∃ dx fs, H a = some (.ins C dx fs)
  hl : H l = some (.lst (as.map V.ref))
  ne : ∀ c ∈ as, c ≠ a
  it : ∀ c ∈ as, ∃ dx fs, H c = some (.ins C dx fs)
  ask : ∀ c ∈ as, ∀ (H' : Hp) (Q : Bool → Hp → Prop), Same H H' → (∀ H2, Same H' H2 → Q (e c) H2) → sp [.ref c, .ref a] H' (fun z H2 => ∃ b, z = .bl b ∧ Q b H2) E0
theorem as_ref : ∀ {as : List Addr} {its : List Value}, Vals (as.map V.ref) its → its = as.map Value.ref
  | [], _, .nil => rfl
  | a :: as, _, .cons r t => by
    cases r
    rw [as_ref t]
    rfl
theorem contains_own (W : OwnC X.K C f) (room : Room (n + 2) X.A) (F : FnOk X.prog X.w X.K X.mg X.base CX0 n f fd ps sp) (bd : Binds X.K fd ps []) {pins : List (Addr × Obj)} {σ : L2.St} {H : Hp} {s : Shared} {a l : Addr} {as : List Addr} {e : Addr → Bool}
    {E : Value → Shared → Prop} {Q : Bool → Shared → Prop} (I : Inv X pins σ H s) (d : InD sp C H a l as e) (q : ∀ H' s', Inv X pins σ H' s' → Same H H' → Q (as.any e) s') :
    wpAny (model X.prog X.w) X.A (call (.builtin "list.__contains__") [.ref l, .ref a]) (fun u s' => ∃ b, u = .bool b ∧ Q b s') E s := by
  have at_ : ∀ {s' : Shared} {H' : Hp}, Inv X pins σ H' s' → Same H H' → ∃ n, s'.heap.get? l = some { cls := .type "list", data := .seq (as.map Value.ref).toArray n } := fun {s' H'} I' sm => by
    obtain ⟨_, its, m, r, e1⟩ := I'.hok l _ (sm _ _ d.hl)
    rw [as_ref r] at e1
    exact ⟨m, e1⟩
  obtain ⟨m0, e0⟩ := at_ I (Same.refl H)
  refine GQ.call_here PySem.F.slot_list_contains ⟨_, e0, rfl⟩ PySem.F.entry_list_contains (PySem.F.args_list_contains_2 _ _) ?_
  have loop := in_loop (prog := X.prog) (w := X.w) (A := X.A) (l := l) (x := a) (as := as) (e := e) (J := fun i s' => ∃ H', Inv X pins σ H' s' ∧ Same H H' ∧ (as.take i).any e = false) (Y := fun s' => ∃ H', Inv X pins σ H' s' ∧ Same H H' ∧ as.any e = true)
    (R := wants (fun u s' => ∃ b, u = .bool b ∧ Q b s') E) (fun i s' z => by
      obtain ⟨H', I', sm, _⟩ := z
      exact at_ I' sm) (fun i c s' hc z => ?_) (fun s' z => ?_) (fun s' z => ?_) as.length 0 (by omega) (Nat.zero_le _) s ⟨H, I, Same.refl H, by simp⟩
  · obtain ⟨hp, g, dd, tk, os⟩ := s
    wp_walk using wpAny_loadPart' e0
    exact ⟨plainId_quiet MeetsSeq.plain_contains_loop _, codeAny_builtin MeetsSeq.entry_contains_loop (by
      rw [Around.under_plainId MeetsSeq.plain_contains_loop _]
      exact loop)⟩
  · obtain ⟨H', I', sm, no⟩ := z
    have cm : c ∈ as := List.mem_of_getElem? hc
    obtain ⟨dx, fs, ec⟩ := d.it c cm
    obtain ⟨dxa, fsa, ea⟩ := d.ha
    obtain ⟨mB, JB, _⟩ := ins_get I'.hok (sm _ _ ea)
    obtain ⟨oB, JB, _⟩ := JB.look
    refine GQ.eqBool_refG (d.ne c cm) (wpAny_mono (rc_L (A := X.A.in1) (n := n) W (by show X.A.frames = some X.stack; exact I.ok.frames) (room.in1.mono (Nat.le_succ _)) F bd I' (sm _ _ ec) (y := .ref a) rfl JB.type (by simp [PySem.W.notFirst])
      (d.ask c cm H' (fun b H2 => b = e c ∧ Same H' H2) sm fun H2 s2 => ⟨rfl, s2⟩)) (fun u s2 hu => ?_) fun _ _ z => z)
    obtain ⟨b, H2, rfl, I2, rfl, s2⟩ := hu
    refine ⟨_, rfl, rfl, fun y => ⟨H2, I2, sm.trans s2, List.any_eq_true.mpr ⟨c, cm, y⟩⟩, fun y => ⟨H2, I2, sm.trans s2, ?_⟩⟩
    rw [List.take_add_one, hc, List.any_append, no]
    simp [y]
  · obtain ⟨H', I', sm, y⟩ := z
    refine ⟨true, rfl, ?_⟩
    have r := q H' s' I' sm
    rw [y] at r
    exact r
  · obtain ⟨H', I', sm, y⟩ := z
    rw [List.take_length] at y
    refine ⟨false, rfl, ?_⟩
    have r := q H' s' I' sm
    rw [y] at r
    exact r
def rInO (sp : Sp) (C : Addr) (neg : Bool) : R2 := fun x y H Q => ∃ (a l : Addr) (as : List Addr) (e : Addr → Bool), x = .ref a ∧ y = .ref l ∧ InD sp C H a l as e ∧ ∀ H', Same H H' → Q (.bl (if neg = true then !as.any e else as.any e)) H'
theorem op_inO (W : OwnC X.K C f) (room : Room (n + 2) X.A) (F : FnOk X.prog X.w X.K X.mg X.base CX0 n f fd ps sp) (bd : Binds X.K fd ps []) : OpR X (compareOp .In) (rInO sp C false) := by
  intro pins s σ H x y u v Q I rx ry h
  obtain ⟨a, l, as, e, rfl, rfl, d, q⟩ := h
  cases rx
  cases ry
  obtain ⟨_, its, m, r, e1⟩ := I.hok l _ d.hl
  show wpAny (model X.prog X.w) X.A (do return Value.bool (← contains (.ref l) (.ref a))) _ _ s
  refine wpAny_bind (wpAny_contains_slot ⟨_, e1, rfl⟩ PySem.F.slot_list_contains (wpAny_mono (contains_own (Q := fun b s' => EP X pins σ Q (.bool b) s') W room F bd I d fun H' s' I' sm => ⟨.bl (as.any e), H', I', rfl, q H' sm⟩) (fun z s' hz => ?_) fun _ _ z => z))
  obtain ⟨b, rfl, hq⟩ := hz
  exact wpAny_truthy_bool (wpAny_pure hq)
theorem op_notInO (W : OwnC X.K C f) (room : Room (n + 2) X.A) (F : FnOk X.prog X.w X.K X.mg X.base CX0 n f fd ps sp) (bd : Binds X.K fd ps []) : OpR X (compareOp .NotIn) (rInO sp C true) := by
  intro pins s σ H x y u v Q I rx ry h
  obtain ⟨a, l, as, e, rfl, rfl, d, q⟩ := h
  cases rx
  cases ry
  obtain ⟨_, its, m, r, e1⟩ := I.hok l _ d.hl
  show wpAny (model X.prog X.w) X.A (do return Value.bool (!(← contains (.ref l) (.ref a)))) _ _ s
  refine wpAny_bind (wpAny_contains_slot ⟨_, e1, rfl⟩ PySem.F.slot_list_contains (wpAny_mono (contains_own (Q := fun b s' => EP X pins σ Q (.bool (!b)) s') W room F bd I d fun H' s' I' sm => ⟨.bl (!as.any e), H', I', rfl, q H' sm⟩) (fun z s' hz => ?_) fun _ _ z => z))
  obtain ⟨b, rfl, hq⟩ := hz
  exact wpAny_truthy_bool (wpAny_pure hq)
end
end K1
namespace K1
open PySem PySem.Spec PyProof.Rows L2

def top (i : Nat) : Stmt := PySem.Challenge.pw_takesworks_k01_days_told.main.body.getD i (.Pass ⟨0, 0, 0, 0⟩)
abbrev sInit : Stmt := inClass (top 14) 0
abbrev sEqD : Stmt := inClass (top 14) 1
abbrev sStrD : Stmt := inClass (top 14) 2
abbrev sReprD : Stmt := inClass (top 14) 3
abbrev sWhole : Stmt := top 4
abbrev sWithin : Stmt := top 5
abbrev sLeap : Stmt := top 11
abbrev sDaysIn : Stmt := top 12
abbrev sMakes : Stmt := top 13
abbrev sHand : Stmt := top 16
abbrev sTake : Stmt := top 17
abbrev sPick : Stmt := top 18
abbrev sLast : Stmt := top 19
abbrev sParts : Stmt := top 20
abbrev sText : Stmt := top 21
abbrev sMade : Stmt := top 22
abbrev sOthers : Stmt := top 23
abbrev sGood : Stmt := top 24
abbrev sRight : Stmt := top 25
abbrev sLaw : Stmt := top 26
theorem scWhole : FnScope ["thing"] ["thing"] (defScope sWhole) := ⟨rfl, rfl, rfl, by decide +kernel, rfl, by decide +kernel, by decide +kernel⟩
theorem scWithin : FnScope ["thing", "least", "most"] ["thing", "least", "most"] (defScope sWithin) := ⟨rfl, rfl, rfl, by decide +kernel, rfl, by decide +kernel, by decide +kernel⟩
theorem scLeap : FnScope ["year"] ["year"] (defScope sLeap) := ⟨rfl, rfl, rfl, by decide +kernel, rfl, by decide +kernel, by decide +kernel⟩
theorem scDaysIn : FnScope ["year", "month"] ["year", "month"] (defScope sDaysIn) := ⟨rfl, rfl, rfl, by decide +kernel, rfl, by decide +kernel, by decide +kernel⟩
theorem scMakes : FnScope ["year", "month", "day"] ["year", "month", "day"] (defScope sMakes) := ⟨rfl, rfl, rfl, by decide +kernel, rfl, by decide +kernel, by decide +kernel⟩
theorem scInit : FnScope ["self", "year", "month", "day"] ["self", "year", "month", "day"] (defScope sInit) := ⟨rfl, rfl, rfl, by decide +kernel, rfl, by decide +kernel, by decide +kernel⟩
theorem scEqD : FnScope ["self", "other"] ["self", "other"] (defScope sEqD) := ⟨rfl, rfl, rfl, by decide +kernel, rfl, by decide +kernel, by decide +kernel⟩
theorem scStrD : FnScope ["self"] ["self"] (defScope sStrD) := ⟨rfl, rfl, rfl, by decide +kernel, rfl, by decide +kernel, by decide +kernel⟩
theorem scReprD : FnScope ["self"] ["self"] (defScope sReprD) := ⟨rfl, rfl, rfl, by decide +kernel, rfl, by decide +kernel, by decide +kernel⟩
theorem scHand : FnScope ["_law_script", "_law_k", "_law_cell", "_law_great"] ["_law_script", "_law_k"] (defScope sHand) := ⟨rfl, rfl, rfl, by decide +kernel, rfl, by decide +kernel, by decide +kernel⟩
theorem scTake : FnScope ["_law_hand_here", "_law_many", "_law_digit", "_law_mixed"] ["_law_hand_here", "_law_many"] (defScope sTake) := ⟨rfl, rfl, rfl, by decide +kernel, rfl, by decide +kernel, by decide +kernel⟩
theorem scPick : FnScope ["_law_hand_here", "_law_some"] ["_law_hand_here", "_law_some"] (defScope sPick) := ⟨rfl, rfl, rfl, by decide +kernel, rfl, by decide +kernel, by decide +kernel⟩
theorem scLast : FnScope ["_law_y", "_law_m", "_law_fourth", "_law_hundredth"] ["_law_y", "_law_m"] (defScope sLast) := ⟨rfl, rfl, rfl, by decide +kernel, rfl, by decide +kernel, by decide +kernel⟩
theorem scParts : FnScope ["_law_hand_here", "_law_some", "_law_y", "_law_tells", "_law_m", "_law_last_here", "_law_d"] ["_law_hand_here"] (defScope sParts) := ⟨rfl, rfl, rfl, by decide +kernel, rfl, by decide +kernel, by decide +kernel⟩
theorem scText : FnScope ["_law_parts_here", "_law_text", "_law_part"] ["_law_parts_here"] (defScope sText) := ⟨rfl, rfl, rfl, by decide +kernel, rfl, by decide +kernel, by decide +kernel⟩
theorem scMade : FnScope ["_law_hand_here", "_law_parts_here", "_law_y", "_law_m", "_law_d", "_law_way"] ["_law_hand_here", "_law_parts_here"] (defScope sMade) := ⟨rfl, rfl, rfl, by decide +kernel, rfl, by decide +kernel, by decide +kernel⟩
theorem scOthers : FnScope ["_law_parts_here", "_law_y", "_law_m", "_law_d", "_law_some", "_law_one"] ["_law_parts_here"] (defScope sOthers) := ⟨rfl, rfl, rfl, by decide +kernel, rfl, by decide +kernel, by decide +kernel⟩
theorem scGood : FnScope ["_law_parts_here", "_law_y", "_law_m", "_law_d"] ["_law_parts_here"] (defScope sGood) := ⟨rfl, rfl, rfl, by decide +kernel, rfl, by decide +kernel, by decide +kernel⟩
theorem scRight : FnScope ["_law_hand_here", "_law_parts_here", "_law_one", "_law_other", "_law_told", "_law_rest", "_law_strange", "_law_part", "_law_some"] ["_law_hand_here"] (defScope sRight) := ⟨rfl, rfl, rfl, by decide +kernel, rfl, by decide +kernel, by decide +kernel⟩
theorem scLaw : FnScope ["_law_script", "_law_k"] ["_law_script"] (defScope sLaw) := ⟨rfl, rfl, rfl, by decide +kernel, rfl, by decide +kernel, by decide +kernel⟩
/-! ## the mathematics -/
def leap (y : Int) : Bool := decide (y % 4 = 0) && (decide (y % 100 ≠ 0) || decide (y % 400 = 0))
def lastDay (y m : Int) : Int := if m = 4 ∨ m = 6 ∨ m = 9 ∨ m = 11 then 30 else if m ≠ 2 then 31 else if leap y = true then 29 else 28
theorem lastDay_ge (y m : Int) : 28 ≤ lastDay y m ∧ lastDay y m ≤ 31 := by
  unfold lastDay
  split
  · omega
  · split
    · omega
    · split <;> omega
/-- the parts of a day -/
def Good (y : Int) (m d : Option Int) : Prop := 1 ≤ y ∧ y ≤ 9999 ∧ match m with
  | none => d = none
  | some i => 1 ≤ i ∧ i ≤ 12 ∧ match d with
    | none => True
    | some j => 1 ≤ j ∧ j ≤ lastDay y i
def oV : Option Int → V
  | none => .non
  | some i => .int i
def oD : Option Int → PyData
  | none => .none
  | some i => .int i
/-- two parts alike, or one not told -/
def uoa : Option Int → Option Int → Bool
  | some i, some j => decide (i = j)
  | _, _ => true
def mayB (y : Int) (m d : Option Int) (y' : Int) (m' d' : Option Int) : Bool := decide (y = y') && uoa m m' && uoa d d'
theorem uoa_comm (a b : Option Int) : uoa a b = uoa b a := by
  cases a <;> cases b <;> simp [uoa, eq_comm]
theorem mayB_comm (y : Int) (m d : Option Int) (y' : Int) (m' d' : Option Int) : mayB y m d y' m' d' = mayB y' m' d' y m d := by
  unfold mayB
  rw [uoa_comm m, uoa_comm d]
  simp [eq_comm]
theorem uoa_self (a : Option Int) : uoa a a = true := by cases a <;> simp [uoa]
theorem uoa_some (a : Option Int) (i : Int) : uoa a (some (a.getD i)) = true := by cases a <;> simp [uoa]

/-! ## objects -/
/-- all that was tracked stands but for the hand -/
def But (h : Addr) (H H' : Hp) : Prop := ∀ b o, b ≠ h → H b = some o → H' b = some o
theorem But.refl (h : Addr) (H : Hp) : But h H H := fun _ _ _ e => e
theorem But.trans {h : Addr} {H H1 H2 : Hp} (p : But h H H1) (q : But h H1 H2) : But h H H2 := fun b o n e => q b o n (p b o n e)
theorem Same.but {H H' : Hp} (s : Same H H') (h : Addr) : But h H H' := fun b o _ e => s b o e
theorem But.seqT {K : PySem.W.Frag} {h : Addr} {H H' : Hp} (s : But h H H') {t : Addr} {xs : List V} (n : t ≠ h) (q : SqT K H t xs) : SqT K H' t xs := by
  rcases q with (q | ⟨o, q⟩) | q
  · exact .inl (.inl (s _ _ n q))
  · exact .inl (.inr ⟨o, s _ _ n q⟩)
  · exact .inr q
theorem But.seqL {K : PySem.W.Frag} {h : Addr} {H H' : Hp} (s : But h H H') {t : Addr} {xs : List V} (n : t ≠ h) (q : SqL K H t xs) : SqL K H' t xs := by
  rcases q with (q | ⟨o, q⟩) | q
  · exact .inl (.inl (s _ _ n q))
  · exact .inl (.inr ⟨o, s _ _ n q⟩)
  · exact .inr q
theorem Same.seqT {K : PySem.W.Frag} {H H' : Hp} (s : Same H H') {t : Addr} {xs : List V} (q : SqT K H t xs) : SqT K H' t xs := by
  rcases q with (q | ⟨o, q⟩) | q
  · exact .inl (.inl (s _ _ q))
  · exact .inl (.inr ⟨o, s _ _ q⟩)
  · exact .inr q
theorem same_upd {H : Hp} {p : Addr} {o : HO} (h : H p = none) : Same H (upd H p o) := fun b x e => by
  rw [upd_ne (ne_of_none e h)]
  exact e
theorem but_upd {H : Hp} {p : Addr} {o : HO} : But p H (upd H p o) := fun b x n e => by
  rw [upd_ne n]
  exact e
/-- the hand: what is left of the cell, what it is mixed of, how often it was asked -/
def Hand (n : Int) (H : Hp) (a : Addr) : Prop := ∃ g m c : Int, H a = some (.lst [.int g, .int m, .int c]) ∧ 0 ≤ g ∧ 0 ≤ m ∧ m < 2305843009213693951 ∧ 0 ≤ c ∧ c ≤ n
theorem Hand.mono {n n' : Int} {H : Hp} {a : Addr} (h : Hand n H a) (l : n ≤ n') : Hand n' H a := by
  obtain ⟨g, m, c, e, h1, h2, h3, h4, h5⟩ := h
  exact ⟨g, m, c, e, h1, h2, h3, h4, Int.le_trans h5 l⟩
theorem Hand.same {n : Int} {H H' : Hp} {a : Addr} (h : Hand n H a) (s : Same H H') : Hand n H' a := by
  obtain ⟨g, m, c, e, r⟩ := h
  exact ⟨g, m, c, s _ _ e, r⟩
theorem Hand.at_ {n : Int} {H : Hp} {a : Addr} (h : Hand n H a) : ∃ xs, H a = some (.lst xs) := by
  obtain ⟨g, m, c, e, r⟩ := h
  exact ⟨_, e⟩
theorem Hand.ne_tup {K : PySem.W.Frag} {n : Int} {H : Hp} {a t : Addr} {xs : List V} (h : Hand n H a) (e : H t = some (.tup xs)) : t ≠ a := by
  obtain ⟨ys, e2⟩ := h.at_
  exact ne_of e e2 (by intro z; cases z)
/-- the fields of a Day -/
def dayF (y : Int) (m d : Option Int) : List (Str × V) := [("year", .int y), ("month", oV m), ("day", oV d)]
def DayAt (C : Addr) (H : Hp) (x : Addr) (y : Int) (m d : Option Int) : Prop := ∃ dx, H x = some (.ins C dx (dayF y m d))
theorem DayAt.same {C : Addr} {H H' : Hp} {x : Addr} {y : Int} {m d : Option Int} (h : DayAt C H x y m d) (s : Same H H') : DayAt C H' x y m d := by
  obtain ⟨dx, e⟩ := h
  exact ⟨dx, s _ _ e⟩
theorem DayAt.but {C h : Addr} {n : Int} {H H' : Hp} {x : Addr} {y : Int} {m d : Option Int} (q : DayAt C H x y m d) (hh : Hand n H h) (s : But h H H') : DayAt C H' x y m d := by
  obtain ⟨dx, e⟩ := q
  obtain ⟨ys, e2⟩ := hh.at_
  exact ⟨dx, s _ _ (ne_of e e2 (by intro z; cases z)) e⟩
theorem f_y (y : Int) (m d : Option Int) : (dayF y m d).lookup ("year" : Str) = some (.int y) := by
  unfold dayF
  rw [List.lookup_cons_self]
theorem f_m (y : Int) (m d : Option Int) : (dayF y m d).lookup ("month" : Str) = some (oV m) := by
  unfold dayF
  rw [List.lookup_cons, show (("month" : Str) == "year") = false by decide +kernel, List.lookup_cons_self]
theorem f_d (y : Int) (m d : Option Int) : (dayF y m d).lookup ("day" : Str) = some (oV d) := by
  unfold dayF
  rw [List.lookup_cons, show (("day" : Str) == "year") = false by decide +kernel, List.lookup_cons, show (("day" : Str) == "month") = false by decide +kernel, List.lookup_cons_self]
end K1
namespace K1
open PySem PySem.Spec PyProof.Rows L2
/-- a def that may be called by its name -/
structure Ca (P : Program) (w : World) (K : PySem.W.Frag) (mg : Str → Option Value) (base : Heap) (k : Nat) (x : Str) (ps : List Str) (sp : Sp) : Prop where
  ex : ∃ (f : Addr) (fd : FuncData), FnOk P w K mg base CX0 k f fd ps sp ∧ mg x = some (.ref f) ∧ PySem.W.keepIn K (.ref f) = true ∧ Binds K fd ps []
/-- a def of the text, as the head finds it -/
structure Df (K : PySem.W.Frag) (mg : Str → Option Value) (x : Str) (ps : List Str) (st : Stmt) (f : Addr) (fd : FuncData) : Prop where
  fn : Fun K x x st f fd
  mgf : mg x = some (.ref f)
  bd : Binds K fd ps []
theorem Df.ca {P : Program} {w : World} {K : PySem.W.Frag} {mg : Str → Option Value} {base : Heap} {k : Nat} {x : Str} {ps : List Str} {st : Stmt} {f : Addr} {fd : FuncData} {sp : Sp} (d : Df K mg x ps st f fd)
    (h : FnOk P w K mg base CX0 k f fd ps sp) : Ca P w K mg base k x ps sp := ⟨f, fd, h, d.mgf, d.fn.kp, d.bd⟩
section
variable {X : Cx} {k j : Nat} {x : Str} {ps : List Str} {sp : Sp} {p pos : Pos} {e : Expr} {es : List Expr} {t : TA}
theorem pe_ca (c : Ca X.prog X.w X.K X.mg X.base k x ps sp) (hr : Room j X.A) (hk : k ≤ j) (hg : Gl X x) (ha : PA X (e :: es) t) (hdb : (x == ("__debug__" : Str)) = false := by decide)
    (he : starEach (e :: es) X.env = (false, eval e X.env) :: starEach es X.env := by rfl) (hpl : (backTo pos (starEach es X.env)).any (·.1) = false := by rfl) :
    PE X (.Call (.Name x p) (e :: es) [] pos) (tCall sp [] E0 t) := by
  obtain ⟨f, fd, F, hm, kp, b⟩ := c.ex
  exact pe_call F (hr.mono hk) hg hm kp b .nil pass0 ha hdb he hpl
end

/-- what the top has left, besides the defs -/
structure Txt (K : PySem.W.Frag) (mg : Str → Option Value) (C : Addr) : Prop where
  cl : Cls K C
  nY : NoAttr K C "year"
  nM : NoAttr K C "month"
  nD : NoAttr K C "day"
  mgC : mg "Day" = some (.ref C)
  ins : C8.InsC K C
  yr : ∃ t, mg "LAST_YEAR" = some (.int 9999 t)
  mo : ∃ t, mg "MONTHS" = some (.int 12 t)
  fe : ∃ t, mg "FEBRUARY" = some (.int 2 t)
  md : ∃ a, mg "MONTH_DAYS" = some (.ref a) ∧ ∀ H, SqT K H a ([31, 28, 31, 30, 31, 30, 31, 31, 30, 31, 30, 31].map V.int)
  isi : mg "isinstance" = none
  int : mg "int" = none
  bool : mg "bool" = none
  len : mg "len" = none
  abs : mg "abs" = none
  min : mg "min" = none
  all : mg "all" = none
  list : mg "list" = none
  any : mg "any" = none
  str : mg "str" = none
  range : mg "range" = none
  repr : mg "repr" = none

/-! ## promises of the program's defs -/
def spWhole : Sp := fun vs H Q _ => ∃ i : Int, vs = [.int i] ∧ Q (.bl true) H
def spWithin : Sp := fun vs H Q _ => ∃ i a b : Int, vs = [.int i, .int a, .int b] ∧ a ≤ i ∧ i ≤ b ∧ Q (.bl true) H
def spLeap : Sp := fun vs H Q _ => ∃ y : Int, vs = [.int y] ∧ Q (.bl (leap y)) H
def spDaysIn : Sp := fun vs H Q _ => ∃ y m : Int, vs = [.int y, .int m] ∧ 1 ≤ m ∧ m ≤ 12 ∧ Q (.int (lastDay y m)) H
def spMakes : Sp := fun vs H Q _ => ∃ (y : Int) (m d : Option Int), vs = [.int y, oV m, oV d] ∧ Good y m d ∧ Q (.bl true) H
def spInit (C : Addr) : Sp := fun vs H Q _ => ∃ (x dx : Addr) (y : Int) (m d : Option Int), vs = [.ref x, .int y, oV m, oV d] ∧ Good y m d ∧ H x = some (.ins C dx []) ∧
  ∀ H' : Hp, (∀ b o, H b = some o → b ≠ x → H' b = some o) → DayAt C H' x y m d → Q .non H'

section
variable {P : Program} {w : World} {K : PySem.W.Frag} {mg : Str → Option Value} {base : Heap} {C : Addr}

theorem ok_whole {f : Addr} {fd : FuncData} (D : Df K mg "is_whole" ["thing"] sWhole f fd) (T : Txt K mg C) : FnOk P w K mg base CX0 1 f fd ["thing"] spWhole := by
  refine D.fn.ok scWhole (fun vs H Q E h => ?_) (fun cdv A outer s H vs Q E hr h => ?_)
  · obtain ⟨i, rfl, _⟩ := h
    rfl
  · obtain ⟨i, rfl, q⟩ := h
    refine ⟨_, pss_one (ps_ret (pe_and (pe_callB call_isi (by rfl) T.isi (by decide +kernel) (pa_cons (pv 0) (pa_cons (pe_bltn (v := .ty "int") (by rfl) T.int (by decide +kernel) rfl) pa_nil)))
      (pe_one (pe_not (pe_callB call_isi (by rfl) T.isi (by decide +kernel) (pa_cons (pv 0) (pa_cons (pe_bltn (v := .ty "bool") (by rfl) T.bool (by decide +kernel) rfl) pa_nil))))))), ?_⟩
    refine ⟨_, rfl, _, _, _, _, true, rfl, .ty _, .base (.int i), kit_ty (by decide +kernel), true, rfl, iteT ?_⟩
    refine ⟨_, rfl, _, _, _, _, false, rfl, .ty _, .base (.int i), kit_ty (by decide +kernel), false, rfl, q⟩

theorem ok_within {f : Addr} {fd : FuncData} (D : Df K mg "is_within" ["thing", "least", "most"] sWithin f fd) (T : Txt K mg C) (cW : Ca P w K mg base 1 "is_whole" ["thing"] spWhole) :
    FnOk P w K mg base CX0 2 f fd ["thing", "least", "most"] spWithin := by
  refine D.fn.ok scWithin (fun vs H Q E h => ?_) (fun cdv A outer s H vs Q E hr h => ?_)
  · obtain ⟨i, a, b, rfl, _⟩ := h
    rfl
  · obtain ⟨i, a, b, rfl, h1, h2, q⟩ := h
    refine ⟨_, pss_one (ps_ret (pe_and (pe_ca cW hr (by decide) (by rfl) (pa_cons (pv 0) pa_nil)) (pe_one (pe_chain op_le op_le (pv 1) (pv 0) (pv 2))))), ?_⟩
    refine ⟨_, rfl, i, rfl, true, rfl, iteT ?_⟩
    refine ⟨_, rfl, _, rfl, a, i, rfl, rfl, _, rfl, ?_⟩
    rw [decide_eq_true h1]
    refine iteT ⟨_, rfl, i, b, rfl, rfl, ?_⟩
    show Q (V.bl (decide (i ≤ b))) H
    rw [decide_eq_true h2]
    exact q

theorem ok_leap {f : Addr} {fd : FuncData} (D : Df K mg "is_leap" ["year"] sLeap f fd) : FnOk P w K mg base CX0 1 f fd ["year"] spLeap := by
  refine D.fn.ok scLeap (fun vs H Q E h => ?_) (fun cdv A outer s H vs Q E hr h => ?_)
  · obtain ⟨y, rfl, _⟩ := h
    rfl
  · obtain ⟨y, rfl, q⟩ := h
    refine ⟨_, pss_one (ps_ret (pe_and (pe_cmpR op_eq (pe_op op_mod (pv 0) pe_int) pe_int (nomark _))
      (pe_one (pe_or (pe_cmpR op_ne (pe_op op_mod (pv 0) pe_int) pe_int (nomark _)) (pe_one (pe_cmpR op_eq (pe_op op_mod (pv 0) pe_int) pe_int (nomark _))))))), ?_⟩
    have e4 : decide (V.int (y % 4) = V.int 0) = decide (y % 4 = 0) := decide_eq_decide.mpr ⟨fun z => V.int.inj z, fun z => by rw [z]⟩
    have e1 : decide (V.int (y % 100) = V.int 0) = decide (y % 100 = 0) := decide_eq_decide.mpr ⟨fun z => V.int.inj z, fun z => by rw [z]⟩
    have e0 : decide (V.int (y % 400) = V.int 0) = decide (y % 400 = 0) := decide_eq_decide.mpr ⟨fun z => V.int.inj z, fun z => by rw [z]⟩
    refine ⟨_, rfl, y, 4, rfl, rfl, (by show (0 : Int) < 4; decide), rfl, _, rfl, ?_⟩
    rw [e4]
    refine ite2 (fun c4 => ?_) (fun c4 => ?_)
    · refine ⟨_, rfl, y, 100, rfl, rfl, (by show (0 : Int) < 100; decide), rfl, _, rfl, ?_⟩
      rw [e1]
      refine ite2 (fun c1 => ?_) (fun c1 => ?_)
      · have z : leap y = true := by
          have a := of_decide_eq_true c4
          have b : ¬ y % 100 = 0 := by simpa using c1
          unfold leap
          simp [a, b]
        rw [z] at q
        exact q
      · refine ⟨_, rfl, y, 400, rfl, rfl, (by show (0 : Int) < 400; decide), rfl, ?_⟩
        rw [e0]
        have z : leap y = decide (y % 400 = 0) := by
          have a := of_decide_eq_true c4
          have b : y % 100 = 0 := by simpa using c1
          unfold leap
          simp [a, b]
        rw [z] at q
        exact q
    · have z : leap y = false := by
        have a : ¬ y % 4 = 0 := by simpa using c4
        unfold leap
        simp [a]
      rw [z] at q
      exact q
end
end K1
namespace K1
open PySem PySem.Spec PyProof.Rows L2
section
variable {P : Program} {w : World} {K : PySem.W.Frag} {mg : Str → Option Value} {base : Heap} {C : Addr}

theorem dInt (i j : Int) : decide (V.int i = V.int j) = decide (i = j) := decide_eq_decide.mpr ⟨fun z => V.int.inj z, fun z => by rw [z]⟩

theorem month_at (y m : Int) (h1 : 1 ≤ m) (h2 : m ≤ 12) (n : ¬ (m = 2 ∧ leap y = true)) :
    atI ([31, 28, 31, 30, 31, 30, 31, 31, 30, 31, 30, 31].map V.int) (m - 1) = some (.int (lastDay y m)) := by
  obtain ⟨j, rfl⟩ : ∃ j : Nat, m = (j : Int) + 1 := ⟨(m - 1).toNat, by omega⟩
  have hj : j < 12 := by omega
  rw [show (j : Int) + 1 - 1 = (j : Int) by omega]
  refine atI_nat ?_
  match j, hj with
  | 0, _ => simp [lastDay]
  | 1, _ =>
    have l : ¬ leap y = true := fun z => n ⟨by decide, z⟩
    simp [lastDay, l]
  | 2, _ => simp [lastDay]
  | 3, _ => simp [lastDay]
  | 4, _ => simp [lastDay]
  | 5, _ => simp [lastDay]
  | 6, _ => simp [lastDay]
  | 7, _ => simp [lastDay]
  | 8, _ => simp [lastDay]
  | 9, _ => simp [lastDay]
  | 10, _ => simp [lastDay]
  | 11, _ => simp [lastDay]

theorem ok_daysIn {f : Addr} {fd : FuncData} (D : Df K mg "days_in" ["year", "month"] sDaysIn f fd) (T : Txt K mg C) (cL : Ca P w K mg base 1 "is_leap" ["year"] spLeap) :
    FnOk P w K mg base CX0 2 f fd ["year", "month"] spDaysIn := by
  obtain ⟨tF, gF⟩ := T.fe
  obtain ⟨aM, gM, sM⟩ := T.md
  refine D.fn.ok scDaysIn (fun vs H Q E h => ?_) (fun cdv A outer s H vs Q E hr h => ?_)
  · obtain ⟨y, m, rfl, _⟩ := h
    rfl
  · obtain ⟨y, m, rfl, h1, h2, q⟩ := h
    refine ⟨_, pss_cons (ps_if (PW.pt (pw_and (pt_cmpR op_eq (pv 1) (pe_glob (v := .int 2) (by rfl) gF ⟨_, rfl⟩) (nomark _)) (pw_and1 (pt_val (pe_ca cL hr (by decide) (by rfl) (pa_cons (pv 0) pa_nil))))))
      (pss_one (ps_ret pe_int)) pss_nil)
      (pss_one (ps_ret (pe_ix ix_tup (pe_glob (v := .ref aM) (by rfl) gM rfl) (pe_op op_sub (pv 1) pe_int) (fun _ _ => rfl)))), ?_⟩
    refine ⟨_, rfl, rfl, _, rfl, ?_⟩
    rw [dInt]
    refine ite2 (fun c => ?_) (fun c => ?_)
    · have em : m = 2 := of_decide_eq_true c
      refine ⟨_, rfl, y, rfl, _, rfl, ?_⟩
      cases l : leap y with
      | true =>
        have z : lastDay y m = 29 := by
          rw [em]
          simp [lastDay, l]
        rw [z] at q
        exact iteT q
      | false => exact iteF ⟨_, rfl, m, 1, rfl, rfl, aM, _, m - 1, _, rfl, rfl, sM H, month_at y m h1 h2 (fun z => by rw [l] at z; cases z.2), q⟩
    · exact iteF ⟨_, rfl, m, 1, rfl, rfl, aM, _, m - 1, _, rfl, rfl, sM H, month_at y m h1 h2 (fun z => c (decide_eq_true z.1)), q⟩

theorem ok_makes {f : Addr} {fd : FuncData} (D : Df K mg "makes_day" ["year", "month", "day"] sMakes f fd) (T : Txt K mg C) (cW : Ca P w K mg base 2 "is_within" ["thing", "least", "most"] spWithin)
    (cD : Ca P w K mg base 2 "days_in" ["year", "month"] spDaysIn) : FnOk P w K mg base CX0 3 f fd ["year", "month", "day"] spMakes := by
  obtain ⟨tY, gY⟩ := T.yr
  obtain ⟨tM, gM⟩ := T.mo
  refine D.fn.ok scMakes (fun vs H Q E h => ?_) (fun cdv A outer s H vs Q E hr h => ?_)
  · obtain ⟨y, m, d, rfl, _⟩ := h
    rfl
  · obtain ⟨y, m, d, rfl, ⟨g1, g2, g3⟩, q⟩ := h
    refine ⟨_, pss_cons (ps_if (pt_not (pt_val (pe_ca cW hr (by decide) (by rfl) (pa_cons (pv 0) (pa_cons pe_int (pa_cons (pe_glob (v := .int 9999) (by rfl) gY ⟨_, rfl⟩) pa_nil)))))) (pss_one (ps_ret pe_bl)) pss_nil)
      (pss_cons (ps_if (pt_cmpR op_isN (pv 1) pe_non (nomark _)) (pss_one (ps_ret (pe_cmpR op_isN (pv 2) pe_non (nomark _)))) pss_nil)
      (pss_cons (ps_if (pt_not (pt_val (pe_ca cW hr (by decide) (by rfl) (pa_cons (pv 1) (pa_cons pe_int (pa_cons (pe_glob (v := .int 12) (by rfl) gM ⟨_, rfl⟩) pa_nil)))))) (pss_one (ps_ret pe_bl)) pss_nil)
      (pss_one (ps_ret (pe_or (pe_cmpR op_isN (pv 2) pe_non (nomark _))
        (pe_one (pe_ca cW hr (by decide) (by rfl) (pa_cons (pv 2) (pa_cons pe_int (pa_cons (pe_ca cD hr (by decide) (by rfl) (pa_cons (pv 0) (pa_cons (pv 1) pa_nil))) pa_nil)))))))))), ?_⟩
    refine ⟨_, rfl, y, 1, 9999, rfl, g1, g2, true, rfl, iteF ?_⟩
    cases m with
    | none =>
      have ed : d = none := g3
      subst ed
      refine ⟨_, rfl, rfl, _, rfl, iteT ?_⟩
      exact ⟨_, rfl, rfl, q⟩
    | some i =>
      obtain ⟨g4, g5, g6⟩ := g3
      refine ⟨_, rfl, rfl, _, rfl, iteF ?_⟩
      refine ⟨_, rfl, i, 1, 12, rfl, g4, g5, true, rfl, iteF ?_⟩
      cases d with
      | none => exact ⟨_, rfl, rfl, true, rfl, iteT q⟩
      | some j =>
        obtain ⟨g7, g8⟩ := g6
        refine ⟨_, rfl, rfl, false, rfl, iteF ?_⟩
        exact ⟨_, rfl, _, rfl, _, rfl, y, i, rfl, g4, g5, j, 1, lastDay y i, rfl, g7, g8, q⟩

theorem put3 (y : Int) (m d : Option Int) : putF "day" (oV d) (putF "month" (oV m) (putF "year" (.int y) [])) = dayF y m d := by
  show (if ("year" : Str) = "day" then _ else _) = _
  rw [if_neg (by decide +kernel)]
  rfl
end
end K1
namespace K1
open PySem PySem.Spec PyProof.Rows L2
/-- a class that may be made by its name with all its values -/
structure Ma (P : Program) (w : World) (K : PySem.W.Frag) (mg : Str → Option Value) (base : Heap) (k : Nat) (x : Str) (C : Addr) (ps : List Str) (sp : Sp) : Prop where
  ex : ∃ (f : Addr) (fd : FuncData), Mk K C f ∧ FnOk P w K mg base CX0 k f fd ps sp ∧ mg x = some (.ref C) ∧ Binds K fd ps []
section
variable {X : Cx} {k j : Nat} {C : Addr} {x : Str} {ps : List Str} {sp : Sp} {p pos : Pos} {e : Expr} {es : List Expr} {t : TA}
theorem pe_ma (c : Ma X.prog X.w X.K X.mg X.base k x C ps sp) (hr : Room j X.A) (hk : k + 1 ≤ j) (hg : Gl X x) (ha : PA X (e :: es) t) (hdb : (x == ("__debug__" : Str)) = false := by decide)
    (he : starEach (e :: es) X.env = (false, eval e X.env) :: starEach es X.env := by rfl) (hpl : (backTo pos (starEach es X.env)).any (·.1) = false := by rfl) :
    PE X (.Call (.Name x p) (e :: es) [] pos) (tMake C sp [] E0 t) := by
  obtain ⟨f, fd, M, F, hm, b⟩ := c.ex
  exact pe_make M F (hr.mono hk) hg hm b .nil pass0 ha hdb he hpl
end
section
variable {P : Program} {w : World} {K : PySem.W.Frag} {mg : Str → Option Value} {base : Heap} {C : Addr}
theorem ok_init {f : Addr} {fd : FuncData} (F : FunD K "__init__" "Day.__init__" (defArgs sInit) (defBody sInit) (defScope sInit) [.non, .non] [] f fd) (T : Txt K mg C) (cM : Ca P w K mg base 3 "makes_day" ["year", "month", "day"] spMakes) :
    FnOk P w K mg base CX0 4 f fd ["self", "year", "month", "day"] (spInit C) := by
  refine F.ok scInit (fun vs H Q E h => ?_) (fun cdv A outer s H vs Q E hr h => ?_)
  · obtain ⟨x, dx, y, m, d, rfl, _⟩ := h
    rfl
  · obtain ⟨x, dx, y, m, d, rfl, g, hx, q⟩ := h
    refine ⟨_, PSs.nox (pss_cons (ps_if (pt_not (pt_val (pe_ca cM hr (by decide) (by rfl) (pa_cons (pv 1) (pa_cons (pv 2) (pa_cons (pv 3) pa_nil)))))) (pss_one ps_never) pss_nil)
      (pss_cons (ps_fld (pv 0) (pv 1) rfl) (pss_cons (ps_fld (pv 0) (pv 2) rfl) (pss_one (ps_fld (pv 0) (pv 3) rfl))))), ?_⟩
    refine ⟨_, rfl, _, rfl, _, rfl, y, m, d, rfl, g, true, rfl, iteF ?_⟩
    refine ⟨_, rfl, _, rfl, x, C, dx, [], rfl, hx, T.cl, T.nY, (by decide), ?_⟩
    refine ⟨_, rfl, _, rfl, x, C, dx, _, rfl, upd_same, T.cl, T.nM, (by show 1 < 1000; decide), ?_⟩
    refine ⟨_, rfl, _, rfl, x, C, dx, _, rfl, upd_same, T.cl, T.nD, ?_, ?_⟩
    · show (putF "month" (oV m) [(("year" : Str), V.int y)]).length < 1000
      unfold putF
      split <;> simp [putF]
    · rw [upd_upd, upd_upd]
      refine q _ (fun b o e n => by rw [upd_ne n]; exact e) ⟨dx, ?_⟩
      rw [upd_same]
      exact congrArg (fun z => some (HO.ins C dx z)) (put3 y m d)

theorem init_binds {f : Addr} {fd : FuncData} (F : FunD K "__init__" "Day.__init__" (defArgs sInit) (defBody sInit) (defScope sInit) [.non, .non] [] f fd) : Binds K fd ["self", "year", "month", "day"] [] := by
  obtain ⟨ds, r, b⟩ := F.binds1 (ps := ["self", "year", "month", "day"]) 4 2 (by simp) rfl fun T kV doc pm an cdv ct us its h1 h2 => by
    match us, its, h1, h2 with
    | [_, _, _, _], [_, _], _, _ => exact ⟨_, rfl, rfl⟩
  cases r
  exact b
/-- what making a Day asks and leaves -/
theorem made {H : Hp} {x dx : Addr} (n1 : H x = none) (n2 : H dx = none) {H' : Hp} (k : ∀ b o, (upd (upd H dx (.own x)) x (.ins C dx [])) b = some o → b ≠ x → H' b = some o) : Same H H' := Same.made n1 n2 k

end
end K1
namespace K1
open PySem PySem.Spec PyProof.Rows L2
/-! ## the law's own draws -/
abbrev far : Int := 1000000
def spHand (K : PySem.W.Frag) : Sp := fun vs H Q _ => ∃ (a : Addr) (k : Int) (ns : List Int), vs = [.ref a, .int k] ∧ 0 ≤ k ∧ SqL K H a (ns.map V.int) ∧
  ∀ p g m, H p = none → 0 ≤ g → 0 ≤ m → m < 2305843009213693951 → Q (.ref p) (upd H p (.lst [.int g, .int m, .int 0]))
def spTake : Sp := fun vs H Q _ => ∃ (h : Addr) (many n : Int), vs = [.ref h, .int many] ∧ 0 < many ∧ many < 1073741824 ∧ Hand n H h ∧ n ≤ far ∧
  ∀ d H', 0 ≤ d → d < many → Hand (n + 1) H' h → But h H H' → Q (.int d) H'
def spPick : Sp := fun vs H Q _ => ∃ (h l : Addr) (xs : List V) (n : Int), vs = [.ref h, .ref l] ∧ H l = some (.lst xs) ∧ l ≠ h ∧ xs ≠ [] ∧ xs.length < 1000 ∧ Hand n H h ∧ n ≤ far ∧
  ∀ v H', v ∈ xs → Hand (n + 1) H' h → But h H H' → Q v H'
def spLast : Sp := fun vs H Q _ => ∃ y m : Int, vs = [.int y, .int m] ∧ ∀ H', Same H H' → Q (.int (lastDay y m)) H'

section
variable {P : Program} {w : World} {K : PySem.W.Frag} {mg : Str → Option Value} {base : Heap} {C : Addr}

theorem b01 (b : Bool) : -(2 ^ 64) < (if b = true then (1 : Int) else 0) ∧ (if b = true then (1 : Int) else 0) < 2 ^ 64 := by cases b <;> decide
theorem b0 (b : Bool) : 0 ≤ (if b = true then (1 : Int) else 0) := by cases b <;> decide
theorem ok_hand {f : Addr} {fd : FuncData} (D : Df K mg "_law_hand" ["_law_script", "_law_k"] sHand f fd) (T : Txt K mg C) : FnOk P w K mg base CX0 1 f fd ["_law_script", "_law_k"] (spHand K) := by
  refine D.fn.ok scHand (fun vs H Q E h => ?_) (fun cdv A outer s H vs Q E hr h => ?_)
  · obtain ⟨a, k, ns, rfl, _⟩ := h
    rfl
  · obtain ⟨a, k, ns, rfl, hk, hS, q⟩ := h
    refine ⟨_, pss_cons (ps_set (i := 2) scHand.nd rfl (.inl rfl) (pe_ifExp (pt_cmpR op_lt (pv 1) (pe_callB call_len_seq (by rfl) T.len PySem.boot_len (pa_cons (pv 0) pa_nil)) (nomark _)) (pe_ix ix_list (pv 0) (pv 1) (fun _ _ => rfl)) pe_int))
      (pss_cons (ps_set (i := 3) scHand.nd rfl (.inl rfl) (pe_op op_mul (pe_op op_mod (pe_callB call_abs (by rfl) T.abs (by decide +kernel) (pa_cons (pv 2) pa_nil)) (pe_op op_mulW (pe_op op_pow pe_int pe_int) (pe_op op_pow pe_int pe_int)))
        (pe_callTy call_int1 (by rfl) T.int (by decide +kernel) (pa_cons (pe_cmpR op_ge (pe_callB call_abs (by rfl) T.abs (by decide +kernel) (pa_cons (pv 2) pa_nil)) (pe_op op_pow pe_int pe_int) (nomark _)) pa_nil))))
      (pss_one (ps_ret (pe_lst (pa_cons (pv 3) (pa_cons (pe_op op_mod (pe_op op_add (pe_op op_add (pe_op op_mod (pv 2) pe_int) (pe_op op_mul pe_int (pv 1))) pe_int) pe_int) (pa_cons pe_int pa_nil))))))), ?_⟩
    refine ⟨_, rfl, _, rfl, a, _, rfl, .inl hS, k, _, rfl, rfl, _, rfl, ?_⟩
    refine ite2 (fun e => ?_) (fun e => ?_)
    · have hlt : k < ((ns.map V.int).length : Int) := of_decide_eq_true e
      rw [List.length_map] at hlt
      obtain ⟨j, rfl⟩ : ∃ j : Nat, k = (j : Int) := ⟨k.toNat, by omega⟩
      have hj : j < ns.length := by omega
      have hat : atI (ns.map V.int) ((j : Nat) : Int) = some (.int ns[j]) := atI_nat (by rw [List.getElem?_map, List.getElem?_eq_getElem hj]; rfl)
      refine ⟨_, rfl, _, rfl, a, _, _, _, rfl, rfl, hS, hat, ?_⟩
      refine ⟨_, rfl, ns[j], rfl, 10, 60, rfl, rfl, ⟨by decide, by decide, by decide⟩, 10, 60, rfl, rfl, ⟨by decide, by decide, by decide⟩, _, _, rfl, rfl, ?_, _, _, rfl, rfl, ?_, ?_⟩
      · exact wide_mul (a := 300) (b := 300) (by decide +kernel) (by decide +kernel) (by decide) (by decide) (by decide)
      · show (0 : Int) < 10 ^ (60 : Int).toNat * 10 ^ (60 : Int).toNat
        decide +kernel
      · refine ⟨_, rfl, ns[j], rfl, 10, 18, rfl, rfl, ⟨by decide, by decide, by decide⟩, _, _, rfl, rfl, .inr ⟨_, rfl, _, _, rfl, rfl, .inr ?_, ?_⟩⟩
        · exact b01 _
        · refine ⟨_, rfl, _, rfl, ns[j], 2305843009213693951, rfl, rfl, (by show (0 : Int) < 2305843009213693951; decide), _, rfl, 7919, _, rfl, rfl, .inl (by decide), _, _, rfl, rfl, _, _, rfl, rfl, _, _, rfl, rfl, (by show (0 : Int) < 2305843009213693951; decide), (by show 3 ≤ sizeLine; decide), fun p np => ?_⟩
          refine q p _ _ np ?_ (Int.emod_nonneg _ (by decide)) (Int.emod_lt_of_pos _ (by decide))
          refine Int.mul_nonneg (Int.emod_nonneg _ (by decide +kernel)) ?_
          exact b0 _
    · refine ⟨_, rfl, 0, rfl, 10, 60, rfl, rfl, ⟨by decide, by decide, by decide⟩, 10, 60, rfl, rfl, ⟨by decide, by decide, by decide⟩, _, _, rfl, rfl, ?_, _, _, rfl, rfl, ?_, ?_⟩
      · exact wide_mul (a := 300) (b := 300) (by decide +kernel) (by decide +kernel) (by decide) (by decide) (by decide)
      · show (0 : Int) < 10 ^ (60 : Int).toNat * 10 ^ (60 : Int).toNat
        decide +kernel
      · refine ⟨_, rfl, 0, rfl, 10, 18, rfl, rfl, ⟨by decide, by decide, by decide⟩, _, _, rfl, rfl, .inr ⟨_, rfl, _, _, rfl, rfl, .inr ?_, ?_⟩⟩
        · exact b01 _
        · refine ⟨_, rfl, _, rfl, 0, 2305843009213693951, rfl, rfl, (by show (0 : Int) < 2305843009213693951; decide), _, rfl, 7919, _, rfl, rfl, .inl (by decide), _, _, rfl, rfl, _, _, rfl, rfl, _, _, rfl, rfl, (by show (0 : Int) < 2305843009213693951; decide), (by show 3 ≤ sizeLine; decide), fun p np => ?_⟩
          refine q p _ _ np ?_ (Int.emod_nonneg _ (by decide)) (Int.emod_lt_of_pos _ (by decide))
          refine Int.mul_nonneg (Int.emod_nonneg _ (by decide +kernel)) ?_
          exact b0 _

theorem ok_take {f : Addr} {fd : FuncData} (D : Df K mg "_law_take" ["_law_hand_here", "_law_many"] sTake f fd) : FnOk P w K mg base CX0 1 f fd ["_law_hand_here", "_law_many"] spTake := by
  refine D.fn.ok scTake (fun vs H Q E h => ?_) (fun cdv A outer s H vs Q E hr h => ?_)
  · obtain ⟨h, many, n, rfl, _⟩ := h
    rfl
  · obtain ⟨h, many, n, rfl, m1, m2, ⟨g, m, c, hh, g0, k0, k1, c0, c1⟩, hn, q⟩ := h
    refine ⟨_, pss_cons (ps_if (pt_cmpR op_gt (pe_ix ix_list (pv 0) pe_int (fun _ _ => rfl)) pe_int (nomark _))
        (pss_cons (ps_set (i := 2) scTake.nd rfl (.inl rfl) (pe_op op_mod (pe_ix ix_list (pv 0) pe_int (fun _ _ => rfl)) (pv 1)))
        (pss_cons (ps_asg (pe_op op_fdiv (pe_ix ix_list (pv 0) pe_int (fun _ _ => rfl)) (pv 1)) (pg_sub (pv 0) pe_int set_list))
        (pss_one (ps_ret (pv 2))))) pss_nil)
      (pss_cons (ps_asg (pe_op op_add (pe_ix ix_list (pv 0) pe_int (fun _ _ => rfl)) pe_int) (pg_sub (pv 0) pe_int set_list))
      (pss_cons (ps_set (i := 3) scTake.nd rfl (.inl rfl) (pe_op op_mod (pe_op op_mul (pe_op op_add (pe_op op_add (pe_ix ix_list (pv 0) pe_int (fun _ _ => rfl))
          (pe_op op_mul (pe_op op_mul pe_int (pe_ix ix_list (pv 0) pe_int (fun _ _ => rfl))) (pe_ix ix_list (pv 0) pe_int (fun _ _ => rfl)))) pe_int) pe_int) pe_int))
      (pss_cons (ps_set (i := 3) scTake.nd rfl (.inl rfl) (pe_op op_mod (pe_op op_mul (pv 3) (pe_op op_add (pe_op op_mod (pv 3) pe_int) (pe_op op_mul pe_int (pe_ix ix_list (pv 0) pe_int (fun _ _ => rfl))))) pe_int))
      (pss_one (ps_ret (pe_op op_mod (pe_op op_add (pe_op op_fdiv (pv 3) pe_int) (pe_op op_fdiv (pv 3) pe_int)) (pv 1))))))), ?_⟩
    have far' : n ≤ 1000000 := hn
    refine ⟨_, rfl, h, _, 0, _, rfl, rfl, SqL.of hh, atI_nat (j := 0) rfl, g, 0, rfl, rfl, _, rfl, ite2 (fun e => ?_) (fun e => ?_)⟩
    · refine ⟨_, rfl, h, _, 0, _, rfl, rfl, SqL.of hh, atI_nat (j := 0) rfl, _, rfl, g, many, rfl, rfl, m1, ?_⟩
      refine ⟨_, rfl, h, _, 0, _, rfl, rfl, SqL.of hh, atI_nat (j := 0) rfl, _, rfl, g, many, rfl, rfl, ⟨m1, m2⟩, _, rfl, h, _, 0, 0, rfl, rfl, hh, rfl, ?_⟩
      refine ⟨_, rfl, ?_⟩
      exact q _ _ (Int.emod_nonneg _ (by omega)) (Int.emod_lt_of_pos _ m1) ⟨g / many, m, c, upd_same, Int.ediv_nonneg g0 (by omega), k0, k1, c0, by omega⟩ but_upd
    · refine ⟨_, rfl, h, _, 2, _, rfl, rfl, SqL.of hh, atI_nat (j := 2) rfl, c, 1, rfl, rfl, _, rfl, h, _, 2, 2, rfl, rfl, hh, rfl, ?_⟩
      have h2 : (upd H h (.lst [.int g, .int m, .int (c + 1)])) h = some (.lst [.int g, .int m, .int (c + 1)]) := upd_same
      have s2 := SqL.of (K := K) h2
      refine ⟨_, rfl, h, _, 1, _, rfl, rfl, s2, atI_nat (j := 1) rfl, _, rfl, h, _, 2, _, rfl, rfl, s2, atI_nat (j := 2) rfl, 65537, c + 1, rfl, rfl, .inl (by decide), _, rfl, h, _, 2, _, rfl, rfl, s2, atI_nat (j := 2) rfl, _, c + 1, rfl, rfl, .inr (by omega),
        m, _, rfl, rfl, _, 11, rfl, rfl, _, 48271, rfl, rfl, .inr (by decide), _, 2305843009213693921, rfl, rfl, (by show (0 : Int) < 2305843009213693921; decide), ?_⟩
      generalize (m + 65537 * (c + 1) * (c + 1) + 11) * 48271 = z
      have z0 : 0 ≤ z % 2305843009213693921 := Int.emod_nonneg _ (by decide)
      have z1 : z % 2305843009213693921 < 2305843009213693921 := Int.emod_lt_of_pos _ (by decide)
      refine ⟨_, rfl, _, rfl, _, 1000003, rfl, rfl, (by show (0 : Int) < 1000003; decide), _, rfl, h, _, 2, _, rfl, rfl, s2, atI_nat (j := 2) rfl, 99991, c + 1, rfl, rfl, .inl (by decide), _, _, rfl, rfl, _, _, rfl, rfl, .inl (by omega),
        _, 2305843009213693907, rfl, rfl, (by show (0 : Int) < 2305843009213693907; decide), ?_⟩
      refine ⟨_, rfl, _, 97, rfl, rfl, ⟨by decide, by decide⟩, _, rfl, _, 1000033, rfl, rfl, ⟨by decide, by decide⟩, _, _, rfl, rfl, _, rfl, _, many, rfl, rfl, m1, ?_⟩
      exact q _ _ (Int.emod_nonneg _ (by omega)) (Int.emod_lt_of_pos _ m1) ⟨g, m, c + 1, h2, g0, k0, k1, by omega, by omega⟩ but_upd

theorem ok_pick {f : Addr} {fd : FuncData} (D : Df K mg "_law_pick" ["_law_hand_here", "_law_some"] sPick f fd) (T : Txt K mg C) (cT : Ca P w K mg base 1 "_law_take" ["_law_hand_here", "_law_many"] spTake) :
    FnOk P w K mg base CX0 2 f fd ["_law_hand_here", "_law_some"] spPick := by
  refine D.fn.ok scPick (fun vs H Q E h => ?_) (fun cdv A outer s H vs Q E hr h => ?_)
  · obtain ⟨h, l, xs, n, rfl, _⟩ := h
    rfl
  · obtain ⟨h, l, xs, n, rfl, hl, nl, ne, few, hh, hn, q⟩ := h
    refine ⟨_, pss_one (ps_ret (pe_ix ix_list (pv 1) (pe_ca cT hr (by decide) (by rfl) (pa_cons (pv 0) (pa_cons (pe_callB call_len_seq (by rfl) T.len PySem.boot_len (pa_cons (pv 1) pa_nil)) pa_nil))) (fun _ _ => rfl))), ?_⟩
    have pos : 0 < xs.length := List.length_pos_iff.mpr ne
    refine ⟨_, rfl, _, rfl, _, rfl, l, xs, rfl, .inl (SqL.of hl), h, (xs.length : Int), n, rfl, by omega, by omega, hh, hn, fun d H' d0 d1 hh' bt => ?_⟩
    obtain ⟨j, rfl⟩ : ∃ j : Nat, d = (j : Int) := ⟨d.toNat, by omega⟩
    have hj : j < xs.length := by omega
    refine ⟨l, xs, _, xs[j], rfl, rfl, SqL.of (bt _ _ nl hl), atI_nat (List.getElem?_eq_getElem hj), ?_⟩
    exact q _ H' (List.getElem_mem hj) hh' bt

theorem ok_last {f : Addr} {fd : FuncData} (D : Df K mg "_law_last" ["_law_y", "_law_m"] sLast f fd) : FnOk P w K mg base CX0 1 f fd ["_law_y", "_law_m"] spLast := by
  refine D.fn.ok scLast (fun vs H Q E h => ?_) (fun cdv A outer s H vs Q E hr h => ?_)
  · obtain ⟨y, m, rfl, _⟩ := h
    rfl
  · obtain ⟨y, m, rfl, q⟩ := h
    refine ⟨_, pss_cons (ps_if (pt_cmpR op_in_seq (pv 1) (pe_tup (pa_cons pe_int (pa_cons pe_int (pa_cons pe_int (pa_cons pe_int pa_nil))))) (by rfl)) (pss_one (ps_ret pe_int)) pss_nil)
      (pss_cons (ps_if (pt_cmpR op_ne (pv 1) pe_int (nomark _)) (pss_one (ps_ret pe_int)) pss_nil)
      (pss_cons (ps_par (i := 2) (j := 3) (by rfl) scLast.nd rfl rfl (by decide) rfl rfl (pa_cons (pe_cmpR op_eq (pe_op op_mul (pe_op op_fdiv (pv 0) pe_int) pe_int) (pv 0) (nomark _))
        (pa_cons (pe_cmpR op_eq (pe_op op_mul (pe_op op_fdiv (pv 0) pe_int) pe_int) (pv 0) (nomark _)) pa_nil)) (by rfl))
      (pss_one (ps_ret (pe_ifExp (PW.pt (pw_and (pt_val (pv 2)) (pw_and1 (PW.pt (pw_or (pt_not (pt_val (pv 3))) (pw_or1 (pt_cmpR op_eq (pe_op op_mul (pe_op op_fdiv (pv 0) pe_int) pe_int) (pv 0) (nomark _)))))))) pe_int pe_int))))), ?_⟩
    refine ⟨_, rfl, (by show 4 ≤ sizeLine; decide), fun t ht => ?_⟩
    have s1 : Same H (upd H t (.tup [.int 4, .int 6, .int 9, .int 11])) := same_upd ht
    refine ⟨t, _, rfl, .inr (SqT.of upd_same), rfl, rfl, _, rfl, ?_⟩
    have q1 := q _ s1
    have e1 : inV (V.int m) [.int 4, .int 6, .int 9, .int 11] = decide (m = 4 ∨ m = 6 ∨ m = 9 ∨ m = 11) := by
      show ((4 : Int) == m || ((6 : Int) == m || ((9 : Int) == m || ((11 : Int) == m || false)))) = _
      by_cases a : m = 4
      · subst a
        rfl
      · by_cases b : m = 6
        · subst b
          rfl
        · by_cases c : m = 9
          · subst c
            rfl
          · by_cases d : m = 11
            · subst d
              rfl
            · rw [beq_eq_false_iff_ne.mpr (Ne.symm a), beq_eq_false_iff_ne.mpr (Ne.symm b), beq_eq_false_iff_ne.mpr (Ne.symm c), beq_eq_false_iff_ne.mpr (Ne.symm d), decide_eq_false (by omega)]
              rfl
    show (if inV (V.int m) [.int 4, .int 6, .int 9, .int 11] = true then _ else _)
    rw [e1]
    refine ite2 (fun e => ?_) (fun e => ?_)
    · have z : lastDay y m = 30 := by
        unfold lastDay
        rw [if_pos (of_decide_eq_true e)]
      rw [z] at q1
      exact q1
    · have n1 : ¬ (m = 4 ∨ m = 6 ∨ m = 9 ∨ m = 11) := fun z => e (decide_eq_true z)
      refine ⟨_, rfl, rfl, _, rfl, ?_⟩
      rw [dInt]
      refine ite2 (fun c => ?_) (fun c => ?_)
      · have z : lastDay y m = 31 := by
          have c' : m ≠ 2 := by simpa using c
          unfold lastDay
          rw [if_neg n1, if_pos c']
        rw [z] at q1
        exact q1
      · have c' : m = 2 := by simpa using c
        have zz : lastDay y m = if leap y = true then 29 else 28 := by
          unfold lastDay
          rw [if_neg n1, if_neg (by simpa using c')]
        refine ⟨_, rfl, y, 4, rfl, rfl, ⟨by decide, by decide⟩, _, 4, rfl, rfl, .inr (by decide), _, rfl, rfl, _, rfl, y, 100, rfl, rfl, ⟨by decide, by decide⟩, _, 100, rfl, rfl, .inr (by decide), _, rfl, rfl, _, _, rfl, ?_⟩
        rw [dInt, dInt]
        refine ⟨_, rfl, _, rfl, ?_⟩
        refine ite2 (fun a4 => ?_) (fun a4 => ?_)
        · have b4 : y % 4 = 0 := by
            have := of_decide_eq_true a4
            omega
          refine ⟨_, rfl, _, rfl, ?_⟩
          refine ite2 (fun a1 => ?_) (fun a1 => ?_)
          · have b1 : ¬ y % 100 = 0 := by
              have : ¬ y / 100 * 100 = y := by simpa using a1
              omega
            have l : leap y = true := by
              unfold leap
              simp [b4, b1]
            rw [zz, l, if_pos rfl] at q1
            exact iteT q1
          · have b1 : y % 100 = 0 := by
              have : y / 100 * 100 = y := by simpa using a1
              omega
            refine ⟨_, rfl, y, 400, rfl, rfl, ⟨by decide, by decide⟩, _, 400, rfl, rfl, .inr (by decide), _, rfl, rfl, _, rfl, ?_⟩
            rw [dInt]
            refine ite2 (fun a0 => ?_) (fun a0 => ?_)
            · have b0 : y % 400 = 0 := by
                have := of_decide_eq_true a0
                omega
              have l : leap y = true := by
                unfold leap
                simp [b4, b0]
              rw [zz, l, if_pos rfl] at q1
              exact q1
            · have b0 : ¬ y % 400 = 0 := by
                have : ¬ y / 400 * 400 = y := by simpa using a0
                omega
              have l : leap y = false := by
                unfold leap
                simp [b1, b0]
              rw [zz, l] at q1
              exact q1
        · have b4 : ¬ y % 4 = 0 := by
            have : ¬ y / 4 * 4 = y := by simpa using a4
            omega
          have l : leap y = false := by
            unfold leap
            simp [b4]
          rw [zz, l] at q1
          exact iteF q1
end
end K1
namespace K1
open PySem PySem.Spec PyProof.Rows L2
/-! ## parts of days -/
abbrev pV (y : Int) (m d : Option Int) : List V := [.int y, oV m, oV d]
def spParts : Sp := fun vs H Q _ => ∃ (h : Addr) (n : Int), vs = [.ref h] ∧ Hand n H h ∧ n + 20 ≤ far ∧
  ∀ t y m d H', H' t = some (.tup (pV y m d)) → Good y m d → Hand (n + 9) H' h → But h H H' → Q (.ref t) H'
theorem Hand.fresh {n : Int} {H : Hp} {a l : Addr} (h : Hand n H a) (e : H l = none) : l ≠ a := by
  obtain ⟨xs, q⟩ := h.at_
  exact (ne_of_none q e).symm

section
variable {P : Program} {w : World} {K : PySem.W.Frag} {mg : Str → Option Value} {base : Heap} {C : Addr}

theorem ok_parts {f : Addr} {fd : FuncData} (D : Df K mg "_law_parts" ["_law_hand_here"] sParts f fd) (cT : Ca P w K mg base 1 "_law_take" ["_law_hand_here", "_law_many"] spTake)
    (cP : Ca P w K mg base 2 "_law_pick" ["_law_hand_here", "_law_some"] spPick) (cL : Ca P w K mg base 1 "_law_last" ["_law_y", "_law_m"] spLast) : FnOk P w K mg base CX0 3 f fd ["_law_hand_here"] spParts := by
  refine D.fn.ok scParts (fun vs H Q E h => ?_) (fun cdv A outer s H vs Q E hr h => ?_)
  · obtain ⟨h, n, rfl, _⟩ := h
    rfl
  · obtain ⟨h, n, rfl, hh, hn, q⟩ := h
    have fr : n + 20 ≤ 1000000 := hn
    refine ⟨_, pss_cons (ps_set (i := 1) scParts.nd rfl (.inl rfl) (pe_lst (pa_cons (pe_op op_add pe_int (pe_ca cT hr (by decide) (by rfl) (pa_cons (pv 0) (pa_cons pe_int pa_nil))))
          (pa_cons pe_int (pa_cons pe_int (pa_cons (pe_op op_mul pe_int (pe_op op_add pe_int (pe_ca cT hr (by decide) (by rfl) (pa_cons (pv 0) (pa_cons pe_int pa_nil)))))
            (pa_cons (pe_op op_mul pe_int (pe_op op_add pe_int (pe_ca cT hr (by decide) (by rfl) (pa_cons (pv 0) (pa_cons pe_int pa_nil))))) pa_nil)))))))
      (pss_cons (ps_set (i := 2) scParts.nd rfl (.inl rfl) (pe_ca cP hr (by decide) (by rfl) (pa_cons (pv 0) (pa_cons (pv 1) pa_nil))))
      (pss_cons (ps_par (i := 3) (j := 4) (by rfl) scParts.nd rfl rfl (by decide) rfl rfl (pa_cons (pe_ca cT hr (by decide) (by rfl) (pa_cons (pv 0) (pa_cons pe_int pa_nil)))
          (pa_cons (pe_ca cP hr (by decide) (by rfl) (pa_cons (pv 0) (pa_cons (pe_lst (pa_cons (pe_op op_add pe_int (pe_ca cT hr (by decide) (by rfl) (pa_cons (pv 0) (pa_cons pe_int pa_nil))))
            (pa_cons pe_int (pa_cons pe_int (pa_cons pe_int (pa_cons pe_int pa_nil)))))) pa_nil))) pa_nil)) (by rfl))
      (pss_cons (ps_set (i := 5) scParts.nd rfl (.inl rfl) (pe_ca cL hr (by decide) (by rfl) (pa_cons (pv 2) (pa_cons (pv 4) pa_nil))))
      (pss_cons (ps_set (i := 6) scParts.nd rfl (.inl rfl) (pe_ca cP hr (by decide) (by rfl) (pa_cons (pv 0) (pa_cons (pe_lst (pa_cons (pe_op op_add pe_int (pe_ca cT hr (by decide) (by rfl) (pa_cons (pv 0) (pa_cons (pv 5) pa_nil))))
            (pa_cons pe_int (pa_cons (pv 5) pa_nil)))) pa_nil))))
      (pss_one (ps_ret (pe_ix ix_list (pe_lst (pa_cons (pe_tup (pa_cons (pv 2) (pa_cons pe_non (pa_cons pe_non pa_nil)))) (pa_cons (pe_tup (pa_cons (pv 2) (pa_cons (pv 4) (pa_cons pe_non pa_nil))))
          (pa_cons (pe_tup (pa_cons (pv 2) (pa_cons (pv 4) (pa_cons (pv 6) pa_nil)))) pa_nil)))) (pv 3) (fun _ _ => rfl)))))))), ?_⟩
    -- some
    refine ⟨_, rfl, h, 9999, n, rfl, by decide, by decide, hh, by omega, fun a1 H1 a10 a11 h1 b1 => ?_⟩
    refine ⟨1, a1, rfl, rfl, ?_⟩
    refine ⟨_, rfl, h, 2499, n + 1, rfl, by decide, by decide, h1, by omega, fun a2 H2 a20 a21 h2 b2 => ?_⟩
    refine ⟨1, a2, rfl, rfl, 4, _, rfl, rfl, .inl (by decide), ?_⟩
    refine ⟨_, rfl, h, 99, n + 1 + 1, rfl, by decide, by decide, h2, by omega, fun a3 H3 a30 a31 h3 b3 => ?_⟩
    refine ⟨1, a3, rfl, rfl, 100, _, rfl, rfl, .inl (by decide), (by show 5 ≤ sizeLine; decide), fun l nl => ?_⟩
    -- y
    refine ⟨_, rfl, _, rfl, h, l, _, n + 1 + 1 + 1, rfl, upd_same, h3.fresh nl, by simp, by show 5 < 1000; decide, h3.same (same_upd nl), by omega, fun yv H4 my h4 b4 => ?_⟩
    obtain ⟨y, rfl, y1, y2⟩ : ∃ y : Int, yv = .int y ∧ 1 ≤ y ∧ y ≤ 9999 := by
      simp only [List.mem_cons, List.not_mem_nil, or_false] at my
      rcases my with e | e | e | e | e
      · exact ⟨_, e, by omega, by omega⟩
      · exact ⟨_, e, by decide, by decide⟩
      · exact ⟨_, e, by decide, by decide⟩
      · exact ⟨_, e, by omega, by omega⟩
      · exact ⟨_, e, by omega, by omega⟩
    -- tells, m
    refine ⟨_, rfl, h, 3, n + 1 + 1 + 1 + 1, rfl, by decide, by decide, h4, by omega, fun tl H5 t0 t1 h5 b5 => ?_⟩
    refine ⟨_, rfl, _, rfl, h, 12, n + 1 + 1 + 1 + 1 + 1, rfl, by decide, by decide, h5, by omega, fun a6 H6 a60 a61 h6 b6 => ?_⟩
    refine ⟨1, a6, rfl, rfl, (by show 5 ≤ sizeLine; decide), fun l2 nl2 => ?_⟩
    refine ⟨h, l2, _, n + 1 + 1 + 1 + 1 + 1 + 1, rfl, upd_same, h6.fresh nl2, by simp, by show 5 < 1000; decide, h6.same (same_upd nl2), by omega, fun mv H7 mm h7 b7 => ?_⟩
    obtain ⟨m, rfl, m1, m2⟩ : ∃ m : Int, mv = .int m ∧ 1 ≤ m ∧ m ≤ 12 := by
      simp only [List.mem_cons, List.not_mem_nil, or_false] at mm
      rcases mm with e | e | e | e | e
      · exact ⟨_, e, by omega, by omega⟩
      · exact ⟨_, e, by decide, by decide⟩
      · exact ⟨_, e, by decide, by decide⟩
      · exact ⟨_, e, by decide, by decide⟩
      · exact ⟨_, e, by decide, by decide⟩
    refine ⟨_, _, rfl, ?_⟩
    -- last_here
    refine ⟨_, rfl, _, rfl, y, m, rfl, fun H8 s8 => ?_⟩
    have h8 := h7.same s8
    have ld := lastDay_ge y m
    -- d
    refine ⟨_, rfl, _, rfl, _, rfl, h, lastDay y m, n + 1 + 1 + 1 + 1 + 1 + 1 + 1, rfl, by omega, by omega, h8, by omega, fun a9 H9 a90 a91 h9 b9 => ?_⟩
    refine ⟨1, a9, rfl, rfl, _, rfl, (by show 3 ≤ sizeLine; decide), fun l3 nl3 => ?_⟩
    refine ⟨h, l3, _, n + 1 + 1 + 1 + 1 + 1 + 1 + 1 + 1, rfl, upd_same, h9.fresh nl3, by simp, by show 3 < 1000; decide, h9.same (same_upd nl3), by omega, fun dv HA dm hA bA => ?_⟩
    obtain ⟨d, rfl, d1, d2⟩ : ∃ d : Int, dv = .int d ∧ 1 ≤ d ∧ d ≤ lastDay y m := by
      simp only [List.mem_cons, List.not_mem_nil, or_false] at dm
      rcases dm with e | e | e
      · exact ⟨_, e, by omega, by omega⟩
      · exact ⟨_, e, by decide, by omega⟩
      · exact ⟨_, e, by omega, by omega⟩
    -- the three
    refine ⟨_, rfl, (by show 3 ≤ sizeLine; decide), fun u1 n1 => ?_⟩
    refine ⟨_, rfl, _, rfl, (by show 3 ≤ sizeLine; decide), fun u2 n2 => ?_⟩
    refine ⟨_, rfl, _, rfl, _, rfl, (by show 3 ≤ sizeLine; decide), fun u3 n3 => ?_⟩
    refine ⟨(by show 3 ≤ sizeLine; decide), fun l4 nl4 => ?_⟩
    have sB := (((same_upd n1).trans (same_upd n2)).trans (same_upd n3)).trans (same_upd nl4 (o := .lst [.ref u1, .ref u2, .ref u3]))
    have hB := (hA.same sB).mono (show n + 1 + 1 + 1 + 1 + 1 + 1 + 1 + 1 + 1 ≤ n + 9 by omega)
    have bt : But h H _ := (((((((((b1.trans b2).trans b3).trans (Same.but (same_upd nl) h)).trans b4).trans b5).trans b6).trans (Same.but (same_upd nl2) h)).trans b7).trans (Same.but s8 h)).trans
      (((b9.trans (Same.but (same_upd nl3) h)).trans bA).trans (Same.but sB h))
    have e1 := (((same_upd n2).trans (same_upd n3)).trans (same_upd nl4 (o := .lst [.ref u1, .ref u2, .ref u3]))) u1 _ upd_same
    have e2 := ((same_upd n3).trans (same_upd nl4 (o := .lst [.ref u1, .ref u2, .ref u3]))) u2 _ upd_same
    have e3 := (same_upd nl4 (o := .lst [.ref u1, .ref u2, .ref u3])) u3 _ upd_same
    obtain ⟨j, rfl⟩ : ∃ j : Nat, tl = (j : Int) := ⟨tl.toNat, by omega⟩
    have hj : j < 3 := by omega
    match j, hj with
    | 0, _ => exact ⟨_, rfl, l4, _, _, _, rfl, rfl, SqL.of upd_same, atI_nat (j := 0) rfl, q u1 y none none _ e1 ⟨y1, y2, rfl⟩ hB bt⟩
    | 1, _ => exact ⟨_, rfl, l4, _, _, _, rfl, rfl, SqL.of upd_same, atI_nat (j := 1) rfl, q u2 y (some m) none _ e2 ⟨y1, y2, m1, m2, trivial⟩ hB bt⟩
    | 2, _ => exact ⟨_, rfl, l4, _, _, _, rfl, rfl, SqL.of upd_same, atI_nat (j := 2) rfl, q u3 y (some m) (some d) _ e3 ⟨y1, y2, m1, m2, d1, d2⟩ hB bt⟩

end
end K1
namespace K1
open PySem PySem.Spec PyProof.Rows L2
/-! ## what is shown of the parts of days -/
abbrev pD (y : Int) (m d : Option Int) : PyData := .tuple [.int y, oD m, oD d]
def Tiny (i : Int) : Prop := 0 ≤ i ∧ i < 10000
def TinyO : Option Int → Prop
  | none => True
  | some i => Tiny i
theorem good_tiny {y : Int} {m d : Option Int} (g : Good y m d) : Tiny y ∧ TinyO m ∧ TinyO d := by
  obtain ⟨g1, g2, g3⟩ := g
  refine ⟨⟨by omega, by omega⟩, ?_⟩
  cases m with
  | none =>
    have : d = none := g3
    subst this
    exact ⟨trivial, trivial⟩
  | some i =>
    obtain ⟨g4, g5, g6⟩ := g3
    have l := lastDay_ge y i
    refine ⟨⟨by omega, by omega⟩, ?_⟩
    cases d with
    | none => trivial
    | some j => exact ⟨by have := g6.1; omega, by have := g6.2; omega⟩
theorem int_small {i : Int} (h : Tiny i) : i.natAbs.log2 < 1920 := by
  have h1 : i.natAbs < 2 ^ 14 := by
    obtain ⟨a, b⟩ := h
    omega
  exact Nat.lt_of_lt_of_le (PySem.Flt.log2_lt_of (by decide) h1) (by decide)
theorem int_short {i : Int} (h : Tiny i) : (PyData.shown (.int i)).length ≤ 4 := by
  simp only [PyData.shown]
  exact toString_length_le h.1 (by decide) (by have := h.2; omega)
theorem oD_show {m : Option Int} (h : TinyO m) : (oD m).showable = true := by
  cases m with
  | none => simp [oD, PyData.showable]
  | some i => simpa [oD, PyData.showable] using int_small h
theorem oD_dict (m : Option Int) : (oD m).hasDict = false := by cases m <;> simp [oD, PyData.hasDict]
theorem oD_depth (m : Option Int) : (oD m).depth = 0 := by cases m <;> simp [oD, PyData.depth]
theorem oD_lay (m : Option Int) : (oD m).canLay0 = true := by cases m <;> simp [oD, PyData.canLay0]
theorem oD_short {m : Option Int} (h : TinyO m) : (oD m).shown.length ≤ 4 := by
  cases m with
  | none =>
    simp only [oD, PyData.shown]
    decide +kernel
  | some i => exact int_short h
structure Shows (d : PyData) (n : Nat) : Prop where
  sh : d.showable = true
  nd : d.hasDict = false
  dp : d.depth ≤ 5
  sz : d.shown.length ≤ n
theorem shows3 {y : Int} {m d : Option Int} (hy : Tiny y) (hm : TinyO m) (hd : TinyO d) : Shows (pD y m d) 30 := by
  refine ⟨?_, ?_, ?_, ?_⟩
  · have := int_small hy
    simp [PyData.showable, PyData.showableAll, oD_show hm, oD_show hd, this]
  · simp [PyData.hasDict, PyData.hasDictAll, oD_dict]
  · simp [PyData.depth, PyData.depthAll, oD_depth]
  · simp only [PyData.shown, PyData.shownAll]
    have a := fmt_text [PyData.shown (.int y), (oD m).shown, (oD d).shown]
    simp only [piled_cons, piled_nil] at a
    have b := int_short hy
    have c := oD_short hm
    have e := oD_short hd
    simp only [PyData.shown] at a b
    omega
theorem shows2 {d e : PyData} (hd : Shows d 30) (he : Shows e 30) (h1 : d.depth ≤ 3) (h2 : e.depth ≤ 3) : Shows (.tuple [d, e]) 100 := by
  refine ⟨?_, ?_, ?_, ?_⟩
  · simp [PyData.showable, PyData.showableAll, hd.sh, he.sh]
  · simp [PyData.hasDict, PyData.hasDictAll, hd.nd, he.nd]
  · simp only [PyData.depth, PyData.depthAll]
    omega
  · simp only [PyData.shown, PyData.shownAll]
    have a := fmt_text [d.shown, e.shown]
    simp only [piled_cons, piled_nil] at a
    have b := hd.sz
    have c := he.sz
    omega
theorem pD_depth (y : Int) (m d : Option Int) : (pD y m d).depth ≤ 3 := by
  simp [PyData.depth, PyData.depthAll, oD_depth]
theorem pD_shaped (y : Int) (m d : Option Int) : SeqAt.shaped (pD y m d) = true := by
  unfold SeqAt.shaped
  have h1 : (pD y m d).canLay0 = true := by simp [PyData.canLay0, PyData.canLayAll0, oD_lay]
  have h2 : (pD y m d).depth ≤ 64 := Nat.le_trans (pD_depth y m d) (by decide)
  rw [h1, decide_eq_true h2]
  rfl
theorem dpO {K : PySem.W.Frag} {H : Hp} (m : Option Int) : Dp K H (oV m) (oD m) := by
  cases m with
  | none => exact .non
  | some i => exact .int i
theorem dp3 {K : PySem.W.Frag} {H : Hp} {t : Addr} {y : Int} {m d : Option Int} (h : SqT K H t (pV y m d)) : Dp K H (.ref t) (pD y m d) := .tup h (.cons (.int y) (.cons (dpO m) (.cons (dpO d) .nil)))
theorem Shows.fit {d : PyData} {n : Nat} (s : Shows d n) (h : n ≤ 1000) : d.shown.length ≤ sizeLine := Nat.le_trans s.sz (Nat.le_of_lt (small1000 h))
end K1
namespace K1
open PySem PySem.Spec PyProof.Rows L2
/-! ## Day.__eq__ -/
/-- things of the built-in kinds that are asked -/
inductive Odd (H : Hp) : V → String → Prop where
  | int (i : Int) : Odd H (.int i) "int"
  | str (x : Str) : Odd H (.str x) "str"
  | non : Odd H .non "NoneType"
  | tup {a : Addr} {xs : List V} (e : H a = some (.tup xs)) : Odd H (.ref a) "tuple"
  | lst {a : Addr} {xs : List V} (e : H a = some (.lst xs)) : Odd H (.ref a) "list"
abbrev OddT (t : String) : Prop := t = "int" ∨ t = "str" ∨ t = "NoneType" ∨ t = "tuple" ∨ t = "list"
theorem Odd.one {H : Hp} {o : V} {t : String} (h : Odd H o t) : OddT t := by
  cases h <;> simp [OddT]
theorem Odd.ty {K : PySem.W.Frag} {H : Hp} {o : V} {t : String} (h : Odd H o t) : TyX K H o (.type t) := by
  cases h with
  | int i => exact .base (.int i)
  | str x => exact .base (.str x)
  | non => exact .base .non
  | tup e => exact .base (.tup e)
  | lst e => exact .base (.lst e)
theorem Odd.same {H H' : Hp} {o : V} {t : String} (h : Odd H o t) (s : Same H H') : Odd H' o t := by
  cases h with
  | int i => exact .int i
  | str x => exact .str x
  | non => exact .non
  | tup e => exact .tup (s _ _ e)
  | lst e => exact .lst (s _ _ e)
structure KitC (K : PySem.W.Frag) (C : Addr) : Prop where
  me : PySem.W.kitOne K (.ref C) (.ref C) = some true
  no : ∀ t : String, OddT t → PySem.W.kitOne K (.type t) (.ref C) = some false
  sub : ∀ t : String, OddT t → PySem.W.subIn K (.type t) (.ref C) = some false
theorem kitC_mk {K : PySem.W.Frag} {C : Addr} (ty : PySem.W.typeIn K (.ref C) = some (.type "type")) (mo : PySem.W.mroIn K C (.type "object") = some true) (s1 : PySem.W.subIn K (.type "int") (.ref C) = some false)
    (s2 : PySem.W.subIn K (.type "str") (.ref C) = some false) (s3 : PySem.W.subIn K (.type "NoneType") (.ref C) = some false) (s4 : PySem.W.subIn K (.type "tuple") (.ref C) = some false) (s5 : PySem.W.subIn K (.type "list") (.ref C) = some false) : KitC K C := by
  have cl : (PySem.W.clsIn K C).isSome = true := by
    unfold PySem.W.mroIn at mo
    cases e : PySem.W.clsIn K C with
    | none => rw [e] at mo; cases mo
    | some c => rfl
  have sub : ∀ t : String, OddT t → PySem.W.subIn K (.type t) (.ref C) = some false := fun t ht => by
    rcases ht with rfl | rfl | rfl | rfl | rfl
    · exact s1
    · exact s2
    · exact s3
    · exact s4
    · exact s5
  refine ⟨?_, fun t ht => ?_, sub⟩
  · unfold PySem.W.kitOne
    simp
  · have q : (Value.type t == Value.ref C) = false := rfl
    unfold PySem.W.kitOne
    rw [q]
    simp only [Bool.false_eq_true, if_false]
    unfold PySem.W.kitCls
    dsimp only
    rw [cl, ty]
    simp only [beq_self_eq_true, Bool.and_self, if_true]
    exact sub t ht
def same3 (y : Int) (m d : Option Int) (y' : Int) (m' d' : Option Int) : Bool := decide (y = y') && (decide (m = m') && decide (d = d'))
def spEqD (C : Addr) : Sp := fun vs H Q _ => ∃ (a : Addr) (o : V) (y : Int) (m d : Option Int), vs = [.ref a, o] ∧ DayAt C H a y m d ∧
  ((∃ t, Odd H o t ∧ Q (.bl false) H) ∨ ∃ (b : Addr) (y' : Int) (m' d' : Option Int), o = .ref b ∧ DayAt C H b y' m' d' ∧ Q (.bl (same3 y m d y' m' d')) H)
theorem dO (m m' : Option Int) : decide (oV m = oV m') = decide (m = m') := by
  cases m <;> cases m' <;> simp [oV]
theorem sO (m m' : Option Int) : scal (oV m) (oV m') = true := by
  cases m <;> cases m' <;> rfl
section
variable {P : Program} {w : World} {K : PySem.W.Frag} {mg : Str → Option Value} {base : Heap} {C : Addr}
theorem ok_eqD {f : Addr} {fd : FuncData} (F : Fun K "__eq__" "Day.__eq__" sEqD f fd) (T : Txt K mg C) (Z : KitC K C) : FnOk P w K mg base CX0 1 f fd ["self", "other"] (spEqD C) := by
  refine F.ok scEqD (fun vs H Q E h => ?_) (fun cdv A outer s H vs Q E hr h => ?_)
  · obtain ⟨a, o, y, m, d, rfl, _⟩ := h
    rfl
  · obtain ⟨a, o, y, m, d, rfl, ⟨dx, ha⟩, h⟩ := h
    refine ⟨_, pss_one (ps_ret (pe_and (pe_callB call_isi (by rfl) T.isi (by decide +kernel) (pa_cons (pv 1) (pa_cons (pe_glob (v := .ref C) (by rfl) T.mgC rfl) pa_nil)))
      (pe_and (pe_cmpR op_eq (pe_fld (pv 0) rfl) (pe_fld (pv 1) rfl) (nomark _)) (pe_and (pe_cmpR op_eq (pe_fld (pv 0) rfl) (pe_fld (pv 1) rfl) (nomark _)) (pe_one (pe_cmpR op_eq (pe_fld (pv 0) rfl) (pe_fld (pv 1) rfl) (nomark _))))))), ?_⟩
    rcases h with ⟨t, ho, q⟩ | ⟨b, y', m', d', rfl, ⟨dz, hb⟩, q⟩
    · exact ⟨_, rfl, _, _, _, _, false, rfl, .own C, ho.ty, Z.no t ho.one, false, rfl, iteF q⟩
    · refine ⟨_, rfl, _, _, _, _, true, rfl, .own C, .base (.ins hb T.cl T.ins.ha T.ins.hn T.ins.htk T.ins.hm), Z.me, true, rfl, iteT ?_⟩
      refine ⟨_, rfl, a, C, dx, _, _, rfl, ha, T.cl, T.nY, f_y _ _ _, _, rfl, b, C, dz, _, _, rfl, hb, T.cl, T.nY, f_y _ _ _, rfl, _, rfl, ?_⟩
      rw [dInt]
      unfold same3 at q
      refine ite2 (fun c => ?_) (fun c => ?_)
      · rw [c, Bool.true_and] at q
        refine ⟨_, rfl, a, C, dx, _, _, rfl, ha, T.cl, T.nM, f_m _ _ _, _, rfl, b, C, dz, _, _, rfl, hb, T.cl, T.nM, f_m _ _ _, sO _ _, _, rfl, ?_⟩
        rw [dO]
        refine ite2 (fun u => ?_) (fun u => ?_)
        · rw [u, Bool.true_and] at q
          refine ⟨_, rfl, a, C, dx, _, _, rfl, ha, T.cl, T.nD, f_d _ _ _, _, rfl, b, C, dz, _, _, rfl, hb, T.cl, T.nD, f_d _ _ _, sO _ _, ?_⟩
          rw [dO]
          exact q
        · have u' : decide (m = m') = false := by simpa using u
          rw [u', Bool.false_and] at q
          exact q
      · have c' : decide (y = y') = false := by simpa using c
        rw [c', Bool.false_and] at q
        exact q
end
end K1
namespace K1
open PySem PySem.Spec PyProof.Rows L2
section
variable {X : Cx} {pins : List (Addr × Obj)} {σ : L2.St} {H : Hp} {s : Shared} {n : Nat} {f C : Addr} {fd : FuncData} {ps : List Str} {sp : Sp}
/-- a def of the written part is run somewhere below -/
theorem own_run {A : Around} {vs : List V} {us : List Value} {Q : VK} {E : Value → Shared → Prop} (fr : A.frames = some X.stack) (room : Room n A) (F : FnOk X.prog X.w X.K X.mg X.base CX0 n f fd ps sp) (bd : Binds X.K fd ps [])
    (I : Inv X pins σ H s) (rv : Vals vs us) (hsp : sp vs H Q E0) : wpAny (model X.prog X.w) A (call (.ref f) us) (EP X pins σ Q) E s := by
  have en : Env0 X.prog X.w X.K X.mg X.base A X.stack s H := by
    have z := I.env0
    exact ⟨fr, z.mod, z.bs, z.bsz, z.funs, z.frf, z.hok, z.bare⟩
  have hl : vs.length = ps.length := F.len _ _ _ _ hsp
  have b1 := bd s us I.kIn (by simpa [← rv.length] using hl)
  rw [List.append_nil] at b1
  refine wpAny_call (codeAny_mono (F.run A X.stack s H ⟨us, []⟩ us vs _ E0 room en b1 rv hsp) fun r s2 hr => ?_)
  match r, hr with
  | .error z, hr => exact False.elim hr
  | .ok .next, hr => exact False.elim hr
  | .ok .brk, hr => exact False.elim hr
  | .ok .cont, hr => exact False.elim hr
  | .ok (.ret u), hr => exact I.after hr

theorem odd_looks {y : V} {v : Value} {t : String} (I : Inv X pins σ H s) (rv : RelV y v) (o : Odd H y t) : PySem.W.Looks (model X.prog X.w) s.heap (typeOf v) (.type t) := by
  obtain ⟨P, Z, p, _⟩ := kit_of I rv (o.ty (K := X.K))
  exact Z.ty _ _ I.kIn p

/-- day == thing -/
def rEqL (C : Addr) (sp : Sp) : R2 := fun x y H Q => ∃ (a dx : Addr) (fs : List (Str × V)), x = .ref a ∧ H a = some (.ins C dx fs) ∧ ((∃ t, Odd H y t) ∨ ∃ b dz gs, y = .ref b ∧ H b = some (.ins C dz gs)) ∧
  sp [.ref a, y] H (fun z H' => ∃ b, z = .bl b ∧ Q (.bl b) H') E0
theorem op_eqL (W : OwnC X.K C f) (Z : KitC X.K C) (room : Room n X.A) (F : FnOk X.prog X.w X.K X.mg X.base CX0 n f fd ps sp) (bd : Binds X.K fd ps []) : OpR X (compareOp .Eq) (rEqL C sp) := by
  intro pins s σ H x y u v Q I rx ry h
  obtain ⟨a, dx, fs, rfl, ha, hy, hsp⟩ := h
  cases rx
  have fin : ∀ tb, PySem.W.Looks (model X.prog X.w) s.heap (typeOf v) tb → PySem.W.notFirst X.K C tb = true → wpAny (model X.prog X.w) X.A (compareOp .Eq (.ref a) v) (EP X pins σ Q) X.xe s := fun tb hb nf => by
    show wpAny (model X.prog X.w) X.A (richCompare .Eq (.ref a) v) _ _ s
    refine wpAny_mono (rc_L (Q := fun b H' => Q (.bl b) H') W I.ok.frames room F bd I ha ry hb nf hsp) (fun z s' hz => ?_) fun _ _ z => z
    obtain ⟨b, H', rfl, I', q⟩ := hz
    exact ⟨.bl b, H', I', rfl, q⟩
  rcases hy with ⟨t, o⟩ | ⟨b, dz, gs, rfl, hb⟩
  · refine fin _ (odd_looks I ry o) ?_
    unfold PySem.W.notFirst
    rw [Z.sub t o.one]
    simp
  · cases ry
    obtain ⟨mB, JB, _⟩ := ins_get I.hok hb
    obtain ⟨oB, JB, _⟩ := JB.look
    exact fin _ JB.type (by simp [PySem.W.notFirst])
/-- day != day -/
def rNeL (C : Addr) (sp : Sp) : R2 := fun x y H Q => ∃ (a dx : Addr) (fs : List (Str × V)) (b dz : Addr) (gs : List (Str × V)), x = .ref a ∧ H a = some (.ins C dx fs) ∧ y = .ref b ∧ H b = some (.ins C dz gs) ∧
  sp [.ref a, y] H (fun z H' => ∃ b, z = .bl b ∧ Q (.bl (!b)) H') E0
theorem op_neL (W : OwnC X.K C f) (room : Room (n + 1) X.A) (F : FnOk X.prog X.w X.K X.mg X.base CX0 n f fd ps sp) (bd : Binds X.K fd ps []) : OpR X (compareOp .NotEq) (rNeL C sp) := by
  intro pins s σ H x y u v Q I rx ry h
  obtain ⟨a, dx, fs, b, dz, gs, rfl, ha, rfl, hb, hsp⟩ := h
  cases rx
  cases ry
  obtain ⟨mB, JB, _⟩ := ins_get I.hok hb
  obtain ⟨oB, JB, _⟩ := JB.look
  show wpAny (model X.prog X.w) X.A (richCompare .NotEq (.ref a) (.ref b)) _ _ s
  refine wpAny_mono (rc_N (Q := fun b H' => Q (.bl b) H') (y := .ref b) W I.ok.frames room F bd I ha rfl JB.type (by simp [PySem.W.notFirst]) hsp) (fun z s' hz => ?_) fun _ _ z => z
  obtain ⟨b, H', rfl, I', q⟩ := hz
  exact ⟨.bl b, H', I', rfl, q⟩
/-- thing == day -/
def rEqR (C : Addr) (sp : Sp) : R2 := fun x y H Q => ∃ (a dx : Addr) (fs : List (Str × V)), y = .ref a ∧ H a = some (.ins C dx fs) ∧
  (((∃ t, Odd H x t) ∧ sp [.ref a, x] H (fun z H' => ∃ b, z = .bl b ∧ Q (.bl b) H') E0) ∨ ∃ b dz gs, x = .ref b ∧ H b = some (.ins C dz gs) ∧ sp [.ref b, .ref a] H (fun z H' => ∃ b, z = .bl b ∧ Q (.bl b) H') E0)
theorem op_eqR (W : OwnC X.K C f) (room : Room n X.A) (F : FnOk X.prog X.w X.K X.mg X.base CX0 n f fd ps sp) (bd : Binds X.K fd ps []) : OpR X (compareOp .Eq) (rEqR C sp) := by
  intro pins s σ H x y u v Q I rx ry h
  obtain ⟨a, dx, fs, rfl, ha, h⟩ := h
  cases ry
  show wpAny (model X.prog X.w) X.A (richCompare .Eq u (.ref a)) _ _ s
  have fin : ∀ {A : Around} {z : Value} {s' : Shared}, BP X pins σ (fun b H' => Q (.bl b) H') z s' → EP X pins σ Q z s' := fun {A z s'} hz => by
    obtain ⟨b, H', rfl, I', q⟩ := hz
    exact ⟨.bl b, H', I', rfl, q⟩
  obtain ⟨mA, J, eI⟩ := ins_get I.hok ha
  obtain ⟨oA, J', _⟩ := J.look
  rcases h with ⟨⟨t, o⟩, hsp⟩ | ⟨b, dz, gs, rfl, hb, hsp⟩
  · cases o with
    | int i =>
      obtain ⟨tk, rfl⟩ := rx
      refine wpAny_mono (rc_R (Q := fun b H' => Q (.bl b) H') (y := .int i) W I.ok.frames room F bd I ha ⟨tk, rfl⟩ (typeIs_int _ _ _) rfl W.sInt PySem.F.slot_int_eq (fun E' => dec_int J.obj) hsp) (fun z s' hz => fin (A := X.A) hz) fun _ _ z => z
    | str i =>
      obtain ⟨tk, rfl⟩ := rx
      refine wpAny_mono (rc_R (Q := fun b H' => Q (.bl b) H') (y := .str i) W I.ok.frames room F bd I ha ⟨tk, rfl⟩ (typeIs_str _ _ _) rfl W.sStr PySem.F.slot_str_eq (fun E' => dec_str J.obj) hsp) (fun z s' hz => fin (A := X.A) hz) fun _ _ z => z
    | non =>
      cases rx
      refine wpAny_mono (rc_R (Q := fun b H' => Q (.bl b) H') (y := .non) W I.ok.frames room F bd I ha rfl (T := "NoneType") rfl rfl W.sNon PySem.F.slot_NoneType_eq (fun E' => dec_none) hsp) (fun z s' hz => fin (A := X.A) hz) fun _ _ z => z
    | @tup b xs e =>
      cases rx
      obtain ⟨_, _, _, ob, h1, h2, _⟩ := (show ObjOk X.prog X.w H s.heap b (.tup xs) from I.hok b _ e)
      refine wpAny_mono (rc_R (Q := fun b H' => Q (.bl b) H') (y := .ref b) W I.ok.frames room F bd I ha rfl (T := "tuple") ⟨ob, h1, h2⟩ rfl W.sTup PySem.F.slot_tuple_eq (fun E' => dec_tup ⟨ob, h1, h2⟩ J' I.kIn W.sTup) hsp) (fun z s' hz => fin (A := X.A) hz) fun _ _ z => z
    | @lst b xs e =>
      cases rx
      obtain ⟨_, _, k, _, h1⟩ := (show ObjOk X.prog X.w H s.heap b (.lst xs) from I.hok b _ e)
      refine wpAny_mono (rc_R (Q := fun b H' => Q (.bl b) H') (y := .ref b) W I.ok.frames room F bd I ha rfl (T := "list") ⟨_, h1, rfl⟩ rfl W.sLst PySem.F.slot_list_eq (fun E' => dec_lst ⟨_, h1, rfl⟩ J' I.kIn W.sLst) hsp) (fun z s' hz => fin (A := X.A) hz) fun _ _ z => z
  · cases rx
    refine wpAny_mono (rc_L (Q := fun b H' => Q (.bl b) H') (y := .ref a) W I.ok.frames room F bd I hb rfl J'.type (by simp [PySem.W.notFirst]) hsp) (fun z s' hz => fin (A := X.A) hz) fun _ _ z => z

/-- str(o) by its own __str__ -/
theorem cr_strO (hs : PySem.W.findIn X.K (.ref C) "__str__" = some (some (.ref f))) (hf : PySem.W.isFn X.K (.ref f) = true) (room : Room (n + 2) X.A) (F : FnOk X.prog X.w X.K X.mg X.base CX0 n f fd ps sp) (bd : Binds X.K fd ps []) :
    CallR X (.type "str") (fun xs H Q => ∃ (a dx : Addr) (fs : List (Str × V)), xs = [.ref a] ∧ H a = some (.ins C dx fs) ∧ sp [.ref a] H (fun z H' => ∃ y, z = .str y ∧ Q (.str y) H') E0) := by
  intro pins s σ H xs us Q I r h
  obtain ⟨a, dx, fs, rfl, ha, hsp⟩ := h
  obtain ⟨u, rfl, rx⟩ := vals1 r
  cases rx
  obtain ⟨mA, J, _⟩ := ins_get I.hok ha
  obtain ⟨oA, J, _⟩ := J.look
  refine PySem.W.kso_call room.in1.in1.units0 I.kIn J hs hf (wpAny_mono (own_run (A := X.A.in1.in1) (vs := [.ref a]) I.ok.frames room.in1.in1 F bd I (.cons rfl .nil) hsp) (fun v s' hv => ?_) fun _ _ z => z)
  obtain ⟨v', H', I', rv, y, rfl, q⟩ := hv
  obtain ⟨tk, rfl⟩ := rv
  exact ⟨.str y, H', I', ⟨tk, rfl⟩, q⟩
/-- repr(o) by its own __repr__ -/
theorem cr_reprO (hs : PySem.W.findIn X.K (.ref C) "__repr__" = some (some (.ref f))) (hf : PySem.W.isFn X.K (.ref f) = true) (room : Room (n + 1) X.A) (F : FnOk X.prog X.w X.K X.mg X.base CX0 n f fd ps sp) (bd : Binds X.K fd ps []) :
    CallR X (.builtin "repr") (fun xs H Q => ∃ (a dx : Addr) (fs : List (Str × V)), xs = [.ref a] ∧ H a = some (.ins C dx fs) ∧ sp [.ref a] H (fun z H' => ∃ y, z = .str y ∧ Q (.str y) H') E0) := by
  intro pins s σ H xs us Q I r h
  obtain ⟨a, dx, fs, rfl, ha, hsp⟩ := h
  obtain ⟨u, rfl, rx⟩ := vals1 r
  cases rx
  obtain ⟨mA, J, _⟩ := ins_get I.hok ha
  obtain ⟨oA, J, _⟩ := J.look
  refine Calls.call_function_entry PySem.F.kind_repr PySem.F.plain_repr PySem.F.entry_repr (PySem.F.args_repr1 _) ?_
  unfold Builtin.«repr»
  refine wpAny_bind (m := oneArg "repr" _) (wpAny_pure ?_)
  refine wpAny_bind (wpAny_cRoomFor room.in1.units0 ?_)
  refine wpAny_bind (wpAny_bind (J.type.here ((PySem.W.looks_findIn I.kIn hs).here ?_)))
  refine wpAny_bind (m := callSpecialIfBound? (.ref a) (Str.ofString "__repr__") _) (PySem.W.ifBound_K I.kIn J hs hf (wpAny_mono (own_run (A := X.A.in1) (vs := [.ref a]) I.ok.frames room.in1 F bd I (.cons rfl .nil) hsp) (fun v s' hv => ?_) fun _ _ z => z))
  obtain ⟨v', H', I', rv, y, rfl, q⟩ := hv
  obtain ⟨tk, rfl⟩ := rv
  refine wpAny_bind (wpAny_isInstance (T := "str") (b := true) rfl isSubtype_str_str ?_)
  exact wpAny_pure ⟨_, rfl, .str y, H', I', ⟨tk, rfl⟩, q⟩
end
end K1
namespace K1
open PySem PySem.Spec PyProof.Rows L2
/-! ## texts of days -/
def zeros (n : Nat) : Str := ⟨(List.replicate n 48).toArray⟩
def nDig (i : Int) : Nat := (Nat.toDigits 10 i.natAbs).length
def zpad (W : Nat) (i : Int) : Str := zeros (W - nDig i) ++ Str.ofString (toString i)
theorem len_text {i : Int} (h : 0 ≤ i) : (Str.ofString (toString i)).length = nDig i := by
  obtain ⟨m, rfl⟩ := Int.eq_ofNat_of_zero_le h
  have e := text_ofNat m
  have e2 : Str.ofString (toString ((m : Nat) : Int)) = ⟨((Nat.toDigits 10 m).map Char.toNat).toArray⟩ := e
  rw [e2]
  show ((Nat.toDigits 10 m).map Char.toNat).toArray.size = _
  rw [List.size_toArray, List.length_map]
  rfl
theorem nDig_le {i : Int} (h : Tiny i) : nDig i ≤ 4 := (digitsFacts10 i.natAbs).lt10000 (by have := h.1; have := h.2; omega)
theorem nDig_le2 {i : Int} (h : 0 ≤ i) (h2 : i < 100) : nDig i ≤ 2 := (digitsFacts10 i.natAbs).lt100 (by omega)
theorem zeros_len (n : Nat) : (zeros n).length = n := by
  show (List.replicate n 48).toArray.size = n
  simp
theorem zpad_len {W : Nat} {i : Int} (hW : W ≤ 4) (h : Tiny i) : (zpad W i).length ≤ 4 := by
  unfold zpad
  rw [strLen_append, zeros_len, len_text h.1]
  have := nDig_le h
  omega
section
variable {X : Cx}
/-- {i:0Wd} -/
def tFmtS (W : Nat) (te : TE) : TE := fun σ H Q => te σ H fun x H1 => ∃ i : Int, x = .int i ∧ Tiny i ∧ Q (.str (zpad W i)) H1
theorem pe_fmtS {e sp : Expr} {te : TE} {spec : Str} {W : Nat} {pos : Pos} (nd : X.base.NoDigits) (hok : intSpecOk spec = true) (hW : intSpecWidthOf spec = W) (hz : intSpecZeroOf spec = true) (hsz : spec.length ≤ sizeLine) (he : PE X e te)
    (hs : PE X sp (tC (.str spec))) : PE X (.FormattedValue e (-1) (some sp) pos) (tFmtS W te) := by
  refine ⟨fun pins s σ H Q I h => ?_⟩
  refine wpAny_FormattedValue_spec (thn (he.run pins s σ H _ I h) fun v s1 hv => ?_)
  obtain ⟨x, H1, I1, r1, i, rfl, hi, q⟩ := hv
  obtain ⟨t, rfl⟩ := r1
  refine thn (hs.run pins s1 σ H1 (fun v H' => v = .str spec ∧ H' = H1) I1 ⟨rfl, rfl⟩) fun r s2 hr => ?_
  obtain ⟨v, H2, I2, r2, rfl, rfl⟩ := hr
  obtain ⟨t2, rfl⟩ := r2
  have a := hi.1
  have b := hi.2
  refine ⟨spec, t2, rfl, formatField_int_specOf (nd.keeps fun b o z => (I2.env0.bs b o z).1) (lt_digitLimit_of_lt (by omega)) hok (fun W' hW' F => ?_) hsz⟩
  have e : intSpecTextOf spec i = zpad W i := by
    rw [F.zeroG hz a, hW', hW]
    rfl
  rw [e]
  exact ⟨.str (zpad W i), H2, I2.tok _, ⟨_, rfl⟩, q⟩
/-- "0" * n -/
theorem op_zeros : OpR X (binaryOp .Mult) (fun x y H Q => ∃ n : Nat, x = .str "0" ∧ y = .int n ∧ n ≤ 4 ∧ Q (.str (zeros n)) H) := by
  intro pins s σ H x y v u Q I rx ry h
  obtain ⟨n, rfl, rfl, hn, q⟩ := h
  obtain ⟨t, rfl⟩ := rx
  obtain ⟨t2, rfl⟩ := ry
  have z0 : ("0" : Str) = ⟨#[48]⟩ := by decide +kernel
  match n, hn, q with
  | 0, _, q => exact PySem.P.mul_str_none (by decide) (by decide) ⟨.str (zeros 0), H, I.tok _, ⟨_, rfl⟩, q⟩
  | 1, _, q =>
    refine PySem.P.mul_str (by decide) (fun _ z => by cases z) (fun _ z => by cases z) ?_
    show EP X pins σ Q (.str "0" t) s
    refine ⟨.str (zeros 1), H, I, ⟨t, by rw [z0]; rfl⟩, q⟩
  | 2, _, q => exact PySem.P.mul_str (by decide) (fun _ _ => by decide +kernel) (fun _ _ => by decide +kernel) ⟨by decide +kernel, .str (zeros 2), H, I.tok _, ⟨_, by rw [z0]; rfl⟩, q⟩
  | 3, _, q => exact PySem.P.mul_str (by decide) (fun _ _ => by decide +kernel) (fun _ _ => by decide +kernel) ⟨by decide +kernel, .str (zeros 3), H, I.tok _, ⟨_, by rw [z0]; rfl⟩, q⟩
  | 4, _, q => exact PySem.P.mul_str (by decide) (fun _ _ => by decide +kernel) (fun _ _ => by decide +kernel) ⟨by decide +kernel, .str (zeros 4), H, I.tok _, ⟨_, by rw [z0]; rfl⟩, q⟩
end
def addP (acc : Str) : Option Int → Str
  | none => acc
  | some i => acc ++ "-" ++ zpad 2 i
def dayText (y : Int) (m d : Option Int) : Str := addP (addP (zpad 4 y) m) d
def toldS : Int → Option Int → Option Int → List Str
  | y, none, _ => [Str.ofString (toString y)]
  | y, some m, none => [Str.ofString (toString y), Str.ofString (toString m)]
  | y, some m, some d => [Str.ofString (toString y), Str.ofString (toString m), Str.ofString (toString d)]
def dayRepr (y : Int) (m d : Option Int) : Str := "Day(" ++ Str.join ", " (toldS y m d) ++ ")"
def spStrD (C : Addr) : Sp := fun vs H Q _ => ∃ (a : Addr) (y : Int) (m d : Option Int), vs = [.ref a] ∧ DayAt C H a y m d ∧ Good y m d ∧ Q (.str (dayText y m d)) H
def spReprD (C : Addr) : Sp := fun vs H Q _ => ∃ (a : Addr) (y : Int) (m d : Option Int), vs = [.ref a] ∧ DayAt C H a y m d ∧ Good y m d ∧ Q (.str (dayRepr y m d)) H
section
variable {P : Program} {w : World} {K : PySem.W.Frag} {mg : Str → Option Value} {base : Heap} {C : Addr}
theorem fitN {n : Nat} (h : n ≤ 1000) : n ≤ sizeLine := Nat.le_of_lt (small1000 h)
theorem emp : Str.empty.length = 0 := rfl
theorem dsh : ("-" : Str).length = 1 := by decide +kernel
theorem ok_strD {f : Addr} {fd : FuncData} (F : Fun K "__str__" "Day.__str__" sStrD f fd) (T : Txt K mg C) (nd : base.NoDigits) : FnOk P w K mg base CX0 1 f fd ["self"] (spStrD C) := by
  refine F.ok scStrD (fun vs H Q E h => ?_) (fun cdv A outer s H vs Q E hr h => ?_)
  · obtain ⟨a, y, m, d, rfl, _⟩ := h
    rfl
  · obtain ⟨a, y, m, d, rfl, ⟨dx, ha⟩, g, q⟩ := h
    obtain ⟨ty, tm, td⟩ := good_tiny g
    refine ⟨_, pss_cons (ps_if (pt_cmpR op_isN (pe_fld (pv 0) rfl) pe_non (nomark _)) (pss_one (ps_ret (pe_joined1 (pe_fmtS (spec := "04d") (W := 4) nd (by decide +kernel) (by decide +kernel) (by decide +kernel) (by decide +kernel) (pe_fld (pv 0) rfl) (pe_joined1 pe_str))))) pss_nil)
      (pss_cons (ps_if (pt_cmpR op_isN (pe_fld (pv 0) rfl) pe_non (nomark _)) (pss_one (ps_ret (pe_joined (.cons (pe_fmtS (spec := "04d") (W := 4) nd (by decide +kernel) (by decide +kernel) (by decide +kernel) (by decide +kernel) (pe_fld (pv 0) rfl) (pe_joined1 pe_str))
          (.cons pe_str (.cons (pe_fmtS (spec := "02d") (W := 2) nd (by decide +kernel) (by decide +kernel) (by decide +kernel) (by decide +kernel) (pe_fld (pv 0) rfl) (pe_joined1 pe_str)) .nil)))))) pss_nil)
      (pss_one (ps_ret (pe_joined (.cons (pe_fmtS (spec := "04d") (W := 4) nd (by decide +kernel) (by decide +kernel) (by decide +kernel) (by decide +kernel) (pe_fld (pv 0) rfl) (pe_joined1 pe_str))
          (.cons pe_str (.cons (pe_fmtS (spec := "02d") (W := 2) nd (by decide +kernel) (by decide +kernel) (by decide +kernel) (by decide +kernel) (pe_fld (pv 0) rfl) (pe_joined1 pe_str))
          (.cons pe_str (.cons (pe_fmtS (spec := "02d") (W := 2) nd (by decide +kernel) (by decide +kernel) (by decide +kernel) (by decide +kernel) (pe_fld (pv 0) rfl) (pe_joined1 pe_str)) .nil))))))))), ?_⟩
    have l4 := zpad_len (W := 4) (by decide) ty
    cases m with
    | none =>
      have ed : d = none := g.2.2
      subst ed
      refine ⟨_, rfl, a, C, dx, _, _, rfl, ha, T.cl, T.nM, f_m _ _ _, rfl, _, rfl, iteT ?_⟩
      exact ⟨_, rfl, a, C, dx, _, _, rfl, ha, T.cl, T.nY, f_y _ _ _, y, rfl, ty, q⟩
    | some i =>
      have l2 := zpad_len (W := 2) (i := i) (by decide) tm
      refine ⟨_, rfl, a, C, dx, _, _, rfl, ha, T.cl, T.nM, f_m _ _ _, rfl, _, rfl, iteF ?_⟩
      refine ⟨_, rfl, a, C, dx, _, _, rfl, ha, T.cl, T.nD, f_d _ _ _, rfl, _, rfl, ?_⟩
      cases d with
      | none =>
        refine iteT ⟨_, rfl, a, C, dx, _, _, rfl, ha, T.cl, T.nY, f_y _ _ _, y, rfl, ty, _, rfl, fitN ?_, _, rfl, fitN ?_, _, rfl, a, C, dx, _, _, rfl, ha, T.cl, T.nM, f_m _ _ _, i, rfl, tm, _, rfl, fitN ?_, ?_⟩
        · rw [strLen_append, emp]; omega
        · rw [strLen_append, strLen_append, emp, dsh]; omega
        · rw [strLen_append, strLen_append, strLen_append, emp, dsh]; omega
        · show Q (V.str (Str.empty ++ zpad 4 y ++ "-" ++ zpad 2 i)) H
          rw [Str.empty_append]
          exact q
      | some j =>
        have l3 := zpad_len (W := 2) (i := j) (by decide) td
        refine iteF ⟨_, rfl, a, C, dx, _, _, rfl, ha, T.cl, T.nY, f_y _ _ _, y, rfl, ty, _, rfl, fitN ?_, _, rfl, fitN ?_, _, rfl, a, C, dx, _, _, rfl, ha, T.cl, T.nM, f_m _ _ _, i, rfl, tm, _, rfl, fitN ?_, _, rfl, fitN ?_, _, rfl, a, C, dx, _, _, rfl, ha, T.cl, T.nD, f_d _ _ _, j, rfl, td, _, rfl, fitN ?_, ?_⟩
        · rw [strLen_append, emp]; omega
        · rw [strLen_append, strLen_append, emp, dsh]; omega
        · rw [strLen_append, strLen_append, strLen_append, emp, dsh]; omega
        · rw [strLen_append, strLen_append, strLen_append, strLen_append, emp, dsh]; omega
        · rw [strLen_append, strLen_append, strLen_append, strLen_append, strLen_append, emp, dsh]; omega
        · show Q (V.str (Str.empty ++ zpad 4 y ++ "-" ++ zpad 2 i ++ "-" ++ zpad 2 j)) H
          rw [Str.empty_append]
          exact q
end
end K1
namespace K1
open PySem PySem.Spec PyProof.Rows L2
section
variable {P : Program} {w : World} {K : PySem.W.Frag} {mg : Str → Option Value} {base : Heap} {C : Addr}
theorem dPar : ("Day(" : Str).length = 4 := by decide +kernel
theorem dCom : (", " : Str).length = 2 := by decide +kernel
theorem dEnd : (")" : Str).length = 1 := by decide +kernel
theorem txt_len {i : Int} (h : Tiny i) : (Str.ofString (toString i)).length ≤ 4 := by
  rw [len_text h.1]
  exact nDig_le h
theorem ok_reprD {f : Addr} {fd : FuncData} (F : Fun K "__repr__" "Day.__repr__" sReprD f fd) (T : Txt K mg C) : FnOk P w K mg base CX0 1 f fd ["self"] (spReprD C) := by
  refine F.ok scReprD (fun vs H Q E h => ?_) (fun cdv A outer s H vs Q E hr h => ?_)
  · obtain ⟨a, y, m, d, rfl, _⟩ := h
    rfl
  · obtain ⟨a, y, m, d, rfl, ⟨dx, ha⟩, g, q⟩ := h
    obtain ⟨ty, tm, td⟩ := good_tiny g
    refine ⟨_, pss_cons (ps_if (pt_cmpR op_isN (pe_fld (pv 0) rfl) pe_non (nomark _)) (pss_one (ps_ret (pe_joined (.cons pe_str (.cons (pe_fmt (pe_fld (pv 0) rfl)) (.cons pe_str .nil)))))) pss_nil)
      (pss_cons (ps_if (pt_cmpR op_isN (pe_fld (pv 0) rfl) pe_non (nomark _)) (pss_one (ps_ret (pe_joined (.cons pe_str (.cons (pe_fmt (pe_fld (pv 0) rfl)) (.cons pe_str (.cons (pe_fmt (pe_fld (pv 0) rfl)) (.cons pe_str .nil)))))))) pss_nil)
      (pss_one (ps_ret (pe_joined (.cons pe_str (.cons (pe_fmt (pe_fld (pv 0) rfl)) (.cons pe_str (.cons (pe_fmt (pe_fld (pv 0) rfl)) (.cons pe_str (.cons (pe_fmt (pe_fld (pv 0) rfl)) (.cons pe_str .nil))))))))))), ?_⟩
    have ly := txt_len ty
    cases m with
    | none =>
      have ed : d = none := g.2.2
      subst ed
      refine ⟨_, rfl, a, C, dx, _, _, rfl, ha, T.cl, T.nM, f_m _ _ _, rfl, _, rfl, iteT ?_⟩
      refine ⟨_, rfl, fitN ?_, _, rfl, a, C, dx, _, _, rfl, ha, T.cl, T.nY, f_y _ _ _, .inr ⟨y, rfl, int_small ty, _, rfl, fitN ?_, _, rfl, fitN ?_, ?_⟩⟩
      · rw [strLen_append, emp, dPar]; omega
      · rw [strLen_append, strLen_append, emp, dPar]; omega
      · rw [strLen_append, strLen_append, strLen_append, emp, dPar, dEnd]; omega
      · show Q (V.str (Str.empty ++ "Day(" ++ Str.ofString (toString y) ++ ")")) H
        rw [Str.empty_append]
        exact q
    | some i =>
      have li := txt_len (i := i) tm
      refine ⟨_, rfl, a, C, dx, _, _, rfl, ha, T.cl, T.nM, f_m _ _ _, rfl, _, rfl, iteF ?_⟩
      refine ⟨_, rfl, a, C, dx, _, _, rfl, ha, T.cl, T.nD, f_d _ _ _, rfl, _, rfl, ?_⟩
      cases d with
      | none =>
        refine iteT ⟨_, rfl, fitN ?_, _, rfl, a, C, dx, _, _, rfl, ha, T.cl, T.nY, f_y _ _ _, .inr ⟨y, rfl, int_small ty, _, rfl, fitN ?_, _, rfl, fitN ?_, _, rfl, a, C, dx, _, _, rfl, ha, T.cl, T.nM, f_m _ _ _, .inr ⟨i, rfl, int_small tm, _, rfl, fitN ?_, _, rfl, fitN ?_, ?_⟩⟩⟩
        · rw [strLen_append, emp, dPar]; omega
        · rw [strLen_append, strLen_append, emp, dPar]; omega
        · rw [strLen_append, strLen_append, strLen_append, emp, dPar, dCom]; omega
        · rw [strLen_append, strLen_append, strLen_append, strLen_append, emp, dPar, dCom]; omega
        · rw [strLen_append, strLen_append, strLen_append, strLen_append, strLen_append, emp, dPar, dCom, dEnd]; omega
        · show Q (V.str (Str.empty ++ "Day(" ++ Str.ofString (toString y) ++ ", " ++ Str.ofString (toString i) ++ ")")) H
          have e : Str.empty ++ "Day(" ++ Str.ofString (toString y) ++ ", " ++ Str.ofString (toString i) ++ ")" = dayRepr y (some i) none := by
            show _ = "Day(" ++ (Str.ofString (toString y) ++ ", " ++ Str.ofString (toString i)) ++ ")"
            simp only [Str.append_assoc, Str.empty_append]
          rw [e]
          exact q
      | some j =>
        have lj := txt_len (i := j) td
        refine iteF ⟨_, rfl, fitN ?_, _, rfl, a, C, dx, _, _, rfl, ha, T.cl, T.nY, f_y _ _ _, .inr ⟨y, rfl, int_small ty, _, rfl, fitN ?_, _, rfl, fitN ?_, _, rfl, a, C, dx, _, _, rfl, ha, T.cl, T.nM, f_m _ _ _, .inr ⟨i, rfl, int_small tm, _, rfl, fitN ?_, _, rfl, fitN ?_,
          _, rfl, a, C, dx, _, _, rfl, ha, T.cl, T.nD, f_d _ _ _, .inr ⟨j, rfl, int_small td, _, rfl, fitN ?_, _, rfl, fitN ?_, ?_⟩⟩⟩⟩
        · rw [strLen_append, emp, dPar]; omega
        · rw [strLen_append, strLen_append, emp, dPar]; omega
        · rw [strLen_append, strLen_append, strLen_append, emp, dPar, dCom]; omega
        · rw [strLen_append, strLen_append, strLen_append, strLen_append, emp, dPar, dCom]; omega
        · rw [strLen_append, strLen_append, strLen_append, strLen_append, strLen_append, emp, dPar, dCom]; omega
        · rw [strLen_append, strLen_append, strLen_append, strLen_append, strLen_append, strLen_append, emp, dPar, dCom]; omega
        · rw [strLen_append, strLen_append, strLen_append, strLen_append, strLen_append, strLen_append, strLen_append, emp, dPar, dCom, dEnd]; omega
        · show Q (V.str (Str.empty ++ "Day(" ++ Str.ofString (toString y) ++ ", " ++ Str.ofString (toString i) ++ ", " ++ Str.ofString (toString j) ++ ")")) H
          have e : Str.empty ++ "Day(" ++ Str.ofString (toString y) ++ ", " ++ Str.ofString (toString i) ++ ", " ++ Str.ofString (toString j) ++ ")" = dayRepr y (some i) (some j) := by
            show _ = "Day(" ++ (Str.ofString (toString y) ++ ", " ++ (Str.ofString (toString i) ++ ", " ++ Str.ofString (toString j))) ++ ")"
            simp only [Str.append_assoc, Str.empty_append]
          rw [e]
          exact q

/-! ## the law's own texts -/
def spText : Sp := fun vs H Q _ => ∃ (t : Addr) (y : Int) (m d : Option Int), vs = [.ref t] ∧ H t = some (.tup (pV y m d)) ∧ Good y m d ∧ ∀ H', Same H H' → Q (.str (dayText y m d)) H'
theorem cut1 (a b c : V) : cutV [a, b, c] (some 1) none = [b, c] := rfl
theorem one_part {i : Int} {W : Nat} (hW : W ≤ 4) (h : Tiny i) (hl : nDig i ≤ W) : (W : Int) - ((Str.ofString (toString i)).length : Nat) = ((W - nDig i : Nat) : Int) := by
  rw [len_text h.1]
  omega
theorem small_month {y : Int} {m d : Option Int} (g : Good y m d) : (∀ i, m = some i → 0 ≤ i ∧ i < 100) ∧ ∀ i, d = some i → 0 ≤ i ∧ i < 100 := by
  obtain ⟨g1, g2, g3⟩ := g
  cases m with
  | none =>
    have : d = none := g3
    subst this
    exact ⟨fun i z => (by cases z), fun i z => (by cases z)⟩
  | some i =>
    obtain ⟨g4, g5, g6⟩ := g3
    refine ⟨fun k z => ?_, fun k z => ?_⟩
    · cases z
      omega
    · subst z
      have := lastDay_ge y i
      obtain ⟨a, b⟩ := g6
      omega
theorem dz : ("0" : Str).length = 1 := by decide +kernel
theorem ok_text {f : Addr} {fd : FuncData} (D : Df K mg "_law_day_text" ["_law_parts_here"] sText f fd) (T : Txt K mg C) : FnOk P w K mg base CX0 1 f fd ["_law_parts_here"] spText := by
  refine D.fn.ok scText (fun vs H Q E h => ?_) (fun cdv A outer s H vs Q E hr h => ?_)
  · obtain ⟨t, y, m, d, rfl, _⟩ := h
    rfl
  · obtain ⟨t, y, m, d, rfl, ht, g, q⟩ := h
    refine ⟨_, pss_cons (ps_set (i := 1) scText.nd rfl (.inl rfl) (pe_op op_add_str (pe_op op_zeros pe_str (pe_op op_sub pe_int (pe_callB call_len_str (by rfl) T.len PySem.boot_len (pa_cons (pe_callTy call_str_int (by rfl) T.str (by decide +kernel) (pa_cons (pe_ix ix_tup (pv 0) pe_int (fun _ _ => rfl)) pa_nil)) pa_nil))))
        (pe_callTy call_str_int (by rfl) T.str (by decide +kernel) (pa_cons (pe_ix ix_tup (pv 0) pe_int (fun _ _ => rfl)) pa_nil))))
      (pss_cons (ps_for PassesOwn.never rfl (pi_tup (pe_slice sl_tup (pv 0) (po_some pe_int) po_none)) (pg_name (i := 2) scText.nd rfl (.inl rfl))
        (pss_one (ps_if (pt_cmpR op_notN (pv 2) pe_non (nomark _)) (pss_one (ps_set (i := 1) scText.nd rfl (.inl rfl) (pe_op op_add_str (pe_op op_add_str (pe_op op_add_str (pv 1) pe_str)
          (pe_op op_zeros pe_str (pe_op op_sub pe_int (pe_callB call_len_str (by rfl) T.len PySem.boot_len (pa_cons (pe_callTy call_str_int (by rfl) T.str (by decide +kernel) (pa_cons (pv 2) pa_nil)) pa_nil)))))
          (pe_callTy call_str_int (by rfl) T.str (by decide +kernel) (pa_cons (pv 2) pa_nil))))) pss_nil)))
      (pss_one (ps_ret (pv 1)))), ?_⟩
    obtain ⟨ty, tm, td⟩ := good_tiny g
    have ly := txt_len ty
    have e4 := one_part (W := 4) (by decide) ty (nDig_le ty)
    have l4 := zpad_len (W := 4) (by decide) ty
    have tO : ∀ i, (m = some i ∨ d = some i) → Tiny i ∧ nDig i ≤ 2 := fun i h => by
      obtain ⟨a, b⟩ := small_month g
      rcases h with h | h
      · obtain ⟨z1, z2⟩ := a i h
        exact ⟨⟨z1, by omega⟩, nDig_le2 z1 z2⟩
      · obtain ⟨z1, z2⟩ := b i h
        exact ⟨⟨z1, by omega⟩, nDig_le2 z1 z2⟩
    refine ⟨_, rfl, t, _, 0, _, rfl, rfl, SqT.of ht, atI_nat (j := 0) rfl, y, rfl, int_small ty, _, rfl, fitN (by omega), 4, _, rfl, rfl, 4 - nDig y, rfl, ?_, by omega, ?_⟩
    · exact congrArg V.int e4
    refine ⟨_, rfl, t, _, 0, _, rfl, rfl, SqT.of ht, atI_nat (j := 0) rfl, y, rfl, int_small ty, _, _, rfl, rfl, fitN ?_, ?_⟩
    · rw [zeros_len]; omega
    refine ⟨_, rfl, 1, rfl, t, _, rfl, SqT.of ht, ?_, fun p np => ?_⟩
    · show ¬ (HT.sIx 3 0 (some 1) = 0 ∧ _)
      intro z
      exact absurd z.1 (by decide)
    have hp : (upd H p (.tup [oV m, oV d])) p = some (.tup [oV m, oV d]) := upd_same
    refine ⟨p, rfl, ⟨_, SqT.of hp⟩, for_tup (K := K) (a := p) (xs := [oV m, oV d]) (fun i σ Hi => (∃ v2 : Option V, σ = [some (.ref t), some (.str (([m, d].take i).foldl addP (zpad 4 y))), v2]) ∧ Hi = upd H p (.tup [oV m, oV d]) ∧ (([m, d].take i).foldl addP (zpad 4 y)).length ≤ 4 + 5 * i) ⟨⟨none, rfl⟩, rfl, l4⟩
      (fun i σ Hi _ z => by rw [z.2.1]; exact SqT.of hp) ?_ ?_⟩
    · rintro i x σ Hi hx ⟨⟨v2, rfl⟩, rfl, hlen⟩
      have key : ∃ o : Option Int, [m, d][i]? = some o ∧ x = oV o ∧ (o = m ∨ o = d) ∧ i ≤ 1 := by
        match i, hx with
        | 0, hx =>
          cases hx
          exact ⟨m, rfl, rfl, .inl rfl, by decide⟩
        | 1, hx =>
          cases hx
          exact ⟨d, rfl, rfl, .inr rfl, by decide⟩
        | k + 2, hx => simp at hx
      obtain ⟨o, ho, rfl, hod, hi⟩ := key
      have eT : ([m, d].take (i + 1)).foldl addP (zpad 4 y) = addP (([m, d].take i).foldl addP (zpad 4 y)) o := by
        rw [List.take_add_one, ho, List.foldl_append]
        rfl
      rw [eT]
      generalize ([m, d].take i).foldl addP (zpad 4 y) = acc at hlen ⊢
      cases o with
      | none => exact ⟨_, rfl, rfl, _, rfl, iteF ⟨⟨_, rfl⟩, rfl, by show acc.length ≤ _; omega⟩⟩
      | some k =>
        obtain ⟨tk, tn⟩ := tO k (by rcases hod with h | h <;> rw [← h] <;> simp)
        have lk := txt_len tk
        have e2 := one_part (W := 2) (by decide) tk tn
        have l2 := zpad_len (W := 2) (by decide) tk
        refine ⟨_, rfl, rfl, _, rfl, iteT ?_⟩
        refine ⟨_, rfl, _, _, rfl, rfl, fitN ?_, _, rfl, k, rfl, int_small tk, _, rfl, fitN (by omega), 2, _, rfl, rfl, 2 - nDig k, rfl, congrArg V.int e2, by omega, _, _, rfl, rfl, fitN ?_, _, rfl, k, rfl, int_small tk, _, _, rfl, rfl, fitN ?_, ⟨some (.int k), ?_⟩, rfl, ?_⟩
        · rw [dsh]; omega
        · rw [strLen_append, dsh, zeros_len]; omega
        · rw [strLen_append, strLen_append, dsh, zeros_len]; omega
        · show [some (V.ref t), some (V.str (acc ++ "-" ++ zeros (2 - nDig k) ++ Str.ofString (toString k))), some (V.int k)] = _
          have e : acc ++ "-" ++ zeros (2 - nDig k) ++ Str.ofString (toString k) = addP acc (some k) := by
            show _ = acc ++ "-" ++ (zeros (2 - nDig k) ++ Str.ofString (toString k))
            simp only [Str.append_assoc]
          rw [e]
        · show (acc ++ "-" ++ zpad 2 k).length ≤ _
          rw [strLen_append, strLen_append, dsh]
          omega
    · rintro σ Hi ⟨⟨v2, rfl⟩, rfl, _⟩
      exact ⟨_, rfl, q _ (same_upd np)⟩

/-- whether parts are a day's: where they are said to be, they are -/
def spGood : Sp := fun vs H Q _ => ∃ (t : Addr) (y : Int) (m d : Option Int), vs = [.ref t] ∧ H t = some (.tup (pV y m d)) ∧ (m = none → d = none) ∧ ∀ b H', Same H H' → (b = true → Good y m d) → Q (.bl b) H'
theorem ok_good {f : Addr} {fd : FuncData} (D : Df K mg "_law_good" ["_law_parts_here"] sGood f fd) (cL : Ca P w K mg base 1 "_law_last" ["_law_y", "_law_m"] spLast) : FnOk P w K mg base CX0 2 f fd ["_law_parts_here"] spGood := by
  refine D.fn.ok scGood (fun vs H Q E h => ?_) (fun cdv A outer s H vs Q E hr h => ?_)
  · obtain ⟨t, y, m, d, rfl, _⟩ := h
    rfl
  · obtain ⟨t, y, m, d, rfl, ht, hmd, q⟩ := h
    refine ⟨_, pss_cons (ps_asg (pv 0) (pg_tup (by rfl) (pgs_cons (pg_name (i := 1) scGood.nd rfl (.inl rfl)) (pgs_cons (pg_name (i := 2) scGood.nd rfl (.inl rfl)) (pgs_cons (pg_name (i := 3) scGood.nd rfl (.inl rfl)) pgs_nil)))))
      (pss_cons (ps_if (PW.pt (pw_or (pt_not (pt_chain op_le op_le pe_int (pv 1) pe_int)) (pw_or1 (PW.pt (pw_and (pt_cmpR op_notN (pv 2) pe_non (nomark _)) (pw_and1 (pt_not (pt_chain op_le op_le pe_int (pv 2) pe_int)))))))) (pss_one (ps_ret pe_bl)) pss_nil)
      (pss_one (ps_ret (pe_or (pe_cmpR op_isN (pv 3) pe_non (nomark _)) (pe_one (pe_chain op_le op_le pe_int (pv 3) (pe_ca cL hr (by decide) (by rfl) (pa_cons (pv 1) (pa_cons (pv 2) pa_nil))))))))), ?_⟩
    refine ⟨_, rfl, t, _, rfl, SqT.of ht, rfl, _, _, rfl, _, _, rfl, _, _, rfl, rfl, ?_⟩
    have no : Q (.bl false) H := q false H (Same.refl H) (fun z => by cases z)
    by_cases a1 : 1 ≤ y
    · by_cases a2 : y ≤ 9999
      · refine ⟨_, rfl, 1, y, rfl, rfl, _, rfl, ?_⟩
        rw [decide_eq_true a1]
        refine iteT ⟨y, 9999, rfl, rfl, _, rfl, ?_⟩
        rw [decide_eq_true a2]
        refine iteF ?_
        cases m with
        | none =>
          have ed : d = none := hmd rfl
          subst ed
          refine ⟨_, rfl, rfl, _, rfl, iteF (iteF ?_)⟩
          refine ⟨_, rfl, rfl, _, rfl, iteT ?_⟩
          exact q true H (Same.refl H) fun _ => ⟨a1, a2, rfl⟩
        | some i =>
          refine ⟨_, rfl, rfl, _, rfl, iteT ?_⟩
          by_cases b1 : 1 ≤ i
          · by_cases b2 : i ≤ 12
            · refine ⟨_, rfl, 1, i, rfl, rfl, _, rfl, ?_⟩
              rw [decide_eq_true b1]
              refine iteT ⟨i, 12, rfl, rfl, _, rfl, ?_⟩
              rw [decide_eq_true b2]
              refine iteF ?_
              cases d with
              | none =>
                refine ⟨_, rfl, rfl, _, rfl, iteT ?_⟩
                exact q true H (Same.refl H) fun _ => ⟨a1, a2, b1, b2, trivial⟩
              | some j =>
                refine ⟨_, rfl, rfl, _, rfl, iteF ?_⟩
                refine ⟨_, rfl, 1, j, rfl, rfl, _, rfl, ?_⟩
                refine ite2 (fun c => ?_) (fun c => ?_)
                · have c1 : 1 ≤ j := of_decide_eq_true c
                  refine ⟨_, rfl, _, rfl, y, i, rfl, fun H' sm => ?_⟩
                  refine ⟨j, lastDay y i, rfl, rfl, ?_⟩
                  exact q _ H' sm fun z => ⟨a1, a2, b1, b2, c1, of_decide_eq_true z⟩
                · exact no
            · refine ⟨_, rfl, 1, i, rfl, rfl, _, rfl, ?_⟩
              rw [decide_eq_true b1]
              refine iteT ⟨i, 12, rfl, rfl, _, rfl, ?_⟩
              rw [decide_eq_false b2]
              exact iteT no
          · refine ⟨_, rfl, 1, i, rfl, rfl, _, rfl, ?_⟩
            rw [decide_eq_false b1]
            exact iteF ⟨_, rfl, iteT no⟩
      · refine ⟨_, rfl, 1, y, rfl, rfl, _, rfl, ?_⟩
        rw [decide_eq_true a1]
        refine iteT ⟨y, 9999, rfl, rfl, _, rfl, ?_⟩
        rw [decide_eq_false a2]
        exact iteT no
    · refine ⟨_, rfl, 1, y, rfl, rfl, _, rfl, ?_⟩
      rw [decide_eq_false a1]
      exact iteF ⟨_, rfl, iteT no⟩
end
end K1
namespace K1
open PySem PySem.Spec PyProof.Rows L2
/-! ## a Day, however it is made -/
def gA {α : Type} (us ws : List α) : List α := us ++ (match ws with | [d, y, m] => [y, m, d] | _ => [])
def gB {α : Type} (us its ws : List α) : List α := us ++ (match ws, its with | [m, y], [_, d] => [y, m, d] | _, _ => [])
theorem gA_rel {vs zs : List V} {us ws : List Value} (r : Vals vs us) (z : Vals zs ws) : Vals (gA vs zs) (gA us ws) := by
  refine Vals.append r ?_
  match zs, ws, z with
  | [], _, .nil => exact .nil
  | [_], _, .cons _ .nil => exact .nil
  | [_, _], _, .cons _ (.cons _ .nil) => exact .nil
  | [_, _, _], _, .cons a (.cons b (.cons c .nil)) => exact .cons b (.cons c (.cons a .nil))
  | _ :: _ :: _ :: _ :: _, _, .cons _ (.cons _ (.cons _ (.cons _ _))) => exact .nil
theorem gB_rel {vs ds zs : List V} {us its ws : List Value} (r : Vals vs us) (q : Vals ds its) (z : Vals zs ws) : Vals (gB vs ds zs) (gB us its ws) := by
  refine Vals.append r ?_
  match zs, ws, z, ds, its, q with
  | [], _, .nil, _, _, _ => exact .nil
  | [_], _, .cons _ .nil, _, _, _ => exact .nil
  | [_, _], _, .cons a (.cons b .nil), [], _, .nil => exact .nil
  | [_, _], _, .cons a (.cons b .nil), [_], _, .cons _ .nil => exact .nil
  | [_, _], _, .cons a (.cons b .nil), [_, _], _, .cons _ (.cons d .nil) => exact .cons b (.cons a (.cons d .nil))
  | [_, _], _, .cons a (.cons b .nil), _ :: _ :: _ :: _, _, .cons _ (.cons _ (.cons _ _)) => exact .nil
  | _ :: _ :: _ :: _, _, .cons _ (.cons _ (.cons _ _)), _, _, _ => exact .nil
abbrev psD : List Str := ["self", "year", "month", "day"]
structure Dm (P : Program) (w : World) (K : PySem.W.Frag) (mg : Str → Option Value) (base : Heap) (C f : Addr) (fd : FuncData) : Prop where
  mm : Mk K C f
  ok : FnOk P w K mg base CX0 4 f fd psD (spInit C)
  mgC : mg "Day" = some (.ref C)
  b4 : Binds K fd psD []
  b3 : ∃ ds, Vals [.non] ds ∧ Binds K fd psD ds
  b2 : ∃ ds, Vals [.non, .non] ds ∧ Binds K fd psD ds
  k1 : KBn K fd psD 1 ["day", "year", "month"] (fun us ws => gA us ws) (fun vs zs => gA vs zs)
  k2 : ∃ its, KBn K fd psD 1 ["month", "year"] (fun us ws => gB us its ws) (fun vs zs => gB vs [.non, .non] zs)
  k3 : KBn K fd psD 3 ["day"] (fun us ws => us ++ ws) (fun vs zs => vs ++ zs)
theorem dm_mk {P : Program} {w : World} {K : PySem.W.Frag} {mg : Str → Option Value} {base : Heap} {C f : Addr} {fd : FuncData} (F : FunD K "__init__" "Day.__init__" (defArgs sInit) (defBody sInit) (defScope sInit) [.non, .non] [] f fd) (mk : Mk K C f)
    (ok : FnOk P w K mg base CX0 4 f fd psD (spInit C)) (mgC : mg "Day" = some (.ref C)) : Dm P w K mg base C f fd := by
  refine ⟨mk, ok, mgC, init_binds F, ?_, ?_, ?_, ?_, ?_⟩
  · exact F.binds1 (ps := psD) 3 1 (by simp) rfl fun T kV doc pm an cdv ct us its h1 h2 => by
      match us, its, h1, h2 with
      | [_, _, _], [_, _], _, _ => exact ⟨_, rfl, rfl⟩
  · exact F.binds1 (ps := psD) 2 0 (by simp) rfl fun T kV doc pm an cdv ct us its h1 h2 => by
      match us, its, h1, h2 with
      | [_, _], [_, _], _, _ => exact ⟨_, rfl, rfl⟩
  · obtain ⟨its, z⟩ := F.kbindsD (ps := psD) 1 ["day", "year", "month"] (fun us _ ws => gA us ws) (by simp) (fun r _ t => gA_rel r t) fun T kV doc pm an cdv ct us its ws h1 h2 h3 => by
      match us, its, ws, h1, h2, h3 with
      | [_], [_, _], [_, _, _], _, _, _ => exact ⟨_, rfl, rfl⟩
    exact z
  · exact F.kbindsD (ps := psD) 1 ["month", "year"] (fun us its ws => gB us its ws) (by simp) (fun r q t => gB_rel r q t) fun T kV doc pm an cdv ct us its ws h1 h2 h3 => by
      match us, its, ws, h1, h2, h3 with
      | [_], [_, _], [_, _], _, _, _ => exact ⟨_, rfl, rfl⟩
  · obtain ⟨its, z⟩ := F.kbindsD (ps := psD) 3 ["day"] (fun us _ ws => us ++ ws) (by simp) (fun r _ t => Vals.append r t) fun T kV doc pm an cdv ct us its ws h1 h2 h3 => by
      match us, its, ws, h1, h2, h3 with
      | [_, _, _], [_, _], [_], _, _, _ => exact ⟨_, rfl, rfl⟩
    exact z
theorem But.free {h l : Addr} {H H' : Hp} (b : But h H H') (ne : l ≠ h) (e : H' l = none) : H l = none := by
  cases q : H l with
  | none => rfl
  | some o =>
    rw [b l o ne q] at e
    cases e
def spMade (C : Addr) : Sp := fun vs H Q _ => ∃ (h t : Addr) (n : Int) (y : Int) (m d : Option Int), vs = [.ref h, .ref t] ∧ H t = some (.tup (pV y m d)) ∧ Good y m d ∧ Hand n H h ∧ n ≤ far ∧
  ∀ x H', DayAt C H' x y m d → H x = none → Hand (n + 1) H' h → But h H H' → Q (.ref x) H'
section
variable {P : Program} {w : World} {K : PySem.W.Frag} {mg : Str → Option Value} {base : Heap} {C : Addr}
theorem ok_made {f fI : Addr} {fd fdI : FuncData} (D : Df K mg "_law_made" ["_law_hand_here", "_law_parts_here"] sMade f fd) (cT : Ca P w K mg base 1 "_law_take" ["_law_hand_here", "_law_many"] spTake) (M : Dm P w K mg base C fI fdI) :
    FnOk P w K mg base CX0 6 f fd ["_law_hand_here", "_law_parts_here"] (spMade C) := by
  obtain ⟨ds3, rd3, bd3⟩ := M.b3
  obtain ⟨ds2, rd2, bd2⟩ := M.b2
  obtain ⟨its2, kb2⟩ := M.k2
  refine D.fn.ok scMade (fun vs H Q E h => ?_) (fun cdv A outer s H vs Q E hr h => ?_)
  · obtain ⟨h, t, n, y, m, d, rfl, _⟩ := h
    rfl
  · obtain ⟨h, t, n, y, m, d, rfl, ht, g, hh, hn, q⟩ := h
    refine ⟨_, pss_cons (ps_asg (pv 1) (pg_tup (by rfl) (pgs_cons (pg_name (i := 2) scMade.nd rfl (.inl rfl)) (pgs_cons (pg_name (i := 3) scMade.nd rfl (.inl rfl)) (pgs_cons (pg_name (i := 4) scMade.nd rfl (.inl rfl)) pgs_nil)))))
      (pss_cons (ps_set (i := 5) scMade.nd rfl (.inl rfl) (pe_ca cT hr (by decide) (by rfl) (pa_cons (pv 0) (pa_cons pe_int pa_nil))))
      (pss_cons (ps_if (PW.pt (pw_and (pt_cmpR op_eq (pv 5) pe_int (nomark _)) (pw_and1 (pt_cmpR op_isN (pv 4) pe_non (nomark _)))))
        (pss_one (ps_ret (pe_ifExp (pt_cmpR op_isN (pv 3) pe_non (nomark _)) (pe_make M.mm M.ok hr (by rfl) M.mgC bd2 rd2 pass0 (pa_cons (pv 2) pa_nil)) (pe_make M.mm M.ok hr (by rfl) M.mgC bd3 rd3 pass0 (pa_cons (pv 2) (pa_cons (pv 3) pa_nil)))))) pss_nil)
      (pss_cons (ps_if (pt_cmpR op_eq (pv 5) pe_int (nomark _)) (pss_one (ps_ret (pe_makeK0 M.mm M.ok hr (by rfl) M.mgC M.k1 pass0 (pk_cons (pv 4) (pk_cons (pv 2) (pk_cons (pv 3) pk_nil)))))) pss_nil)
      (pss_cons (ps_if (PW.pt (pw_and (pt_cmpR op_eq (pv 5) pe_int (nomark _)) (pw_and1 (pt_cmpR op_isN (pv 4) pe_non (nomark _))))) (pss_one (ps_ret (pe_makeK0 M.mm M.ok hr (by rfl) M.mgC kb2 pass0 (pk_cons (pv 3) (pk_cons (pv 2) pk_nil))))) pss_nil)
      (pss_one (ps_ret (pe_ifExp (pt_cmpR op_eq (pv 5) pe_int (nomark _)) (pe_makeN (n := 2) M.mm M.ok hr (by rfl) M.mgC M.k3 pass0 (pa_cons (pv 2) (pa_cons (pv 3) pa_nil)) (pk_cons (pv 4) pk_nil))
        (pe_make M.mm M.ok hr (by rfl) M.mgC M.b4 .nil pass0 (pa_cons (pv 2) (pa_cons (pv 3) (pa_cons (pv 4) pa_nil))))))))))), ?_⟩
    refine ⟨_, rfl, t, _, rfl, SqT.of ht, rfl, _, _, rfl, _, _, rfl, _, _, rfl, rfl, ?_⟩
    refine ⟨_, rfl, h, 4, n, rfl, by decide, by decide, hh, hn, fun wy H1 w0 w1 h1 b1 => ?_⟩
    have fin : ∀ x e : Addr, H1 x = none → H1 e = none → e ≠ x → spInit C [.ref x, .int y, oV m, oV d] (upd (upd H1 e (.own x)) x (.ins C e [])) (fun v H2 => v = .non ∧ Q (.ref x) H2) E0 :=
      fun x e n1 n2 n3 => ⟨x, e, y, m, d, rfl, g, upd_same, fun H' k dd => ⟨rfl, q x H' dd (But.free b1 (h1.fresh n1) n1) (h1.same (made n1 n2 k)) (b1.trans (Same.but (made n1 n2 k) h))⟩⟩
    refine ⟨_, rfl, rfl, _, rfl, ?_⟩
    rw [dInt]
    refine ite2 (fun _ => ?_) (fun _ => ?_)
    · refine ⟨_, rfl, rfl, _, rfl, ?_⟩
      cases d with
      | none =>
        refine iteT ⟨_, rfl, rfl, _, rfl, ?_⟩
        cases m with
        | none => exact iteT ⟨_, rfl, fin⟩
        | some i => exact iteF ⟨_, rfl, _, rfl, fin⟩
      | some j =>
        refine iteF ?_
        refine ⟨_, rfl, rfl, _, rfl, ?_⟩
        rw [dInt]
        refine ite2 (fun _ => ?_) (fun _ => ?_)
        · exact ⟨_, rfl, _, rfl, _, rfl, rfl, rfl, fin⟩
        · refine ⟨_, rfl, rfl, _, rfl, ?_⟩
          rw [dInt]
          refine ite2 (fun _ => ?_) (fun _ => ?_)
          · refine ⟨_, rfl, rfl, _, rfl, ?_⟩
            refine iteF ?_
            refine ⟨_, rfl, rfl, _, rfl, ?_⟩
            rw [dInt]
            refine ite2 (fun _ => ?_) (fun _ => ?_)
            · exact ⟨_, rfl, _, rfl, _, rfl, rfl, rfl, fin⟩
            · exact ⟨_, rfl, _, rfl, _, rfl, fin⟩
          · refine iteF ?_
            refine ⟨_, rfl, rfl, _, rfl, ?_⟩
            rw [dInt]
            refine ite2 (fun _ => ?_) (fun _ => ?_)
            · exact ⟨_, rfl, _, rfl, _, rfl, rfl, rfl, fin⟩
            · exact ⟨_, rfl, _, rfl, _, rfl, fin⟩
    · refine iteF ?_
      refine ⟨_, rfl, rfl, _, rfl, ?_⟩
      rw [dInt]
      refine ite2 (fun _ => ?_) (fun _ => ?_)
      · exact ⟨_, rfl, _, rfl, _, rfl, rfl, rfl, fin⟩
      · refine ⟨_, rfl, rfl, _, rfl, ?_⟩
        rw [dInt]
        refine ite2 (fun _ => ?_) (fun _ => ?_)
        · refine ⟨_, rfl, rfl, _, rfl, ?_⟩
          cases d with
          | none => exact iteT ⟨_, rfl, _, rfl, rfl, rfl, fin⟩
          | some j =>
            refine iteF ?_
            refine ⟨_, rfl, rfl, _, rfl, ?_⟩
            rw [dInt]
            refine ite2 (fun _ => ?_) (fun _ => ?_)
            · exact ⟨_, rfl, _, rfl, _, rfl, rfl, rfl, fin⟩
            · exact ⟨_, rfl, _, rfl, _, rfl, fin⟩
        · refine iteF ?_
          refine ⟨_, rfl, rfl, _, rfl, ?_⟩
          rw [dInt]
          refine ite2 (fun _ => ?_) (fun _ => ?_)
          · exact ⟨_, rfl, _, rfl, _, rfl, rfl, rfl, fin⟩
          · exact ⟨_, rfl, _, rfl, _, rfl, fin⟩
end
end K1
namespace K1
open PySem PySem.Spec PyProof.Rows L2
abbrev Pt := Int × Option Int × Option Int
def GoodP (p : Pt) : Prop := Good p.1 p.2.1 p.2.2
abbrev pVp (p : Pt) : List V := pV p.1 p.2.1 p.2.2
def TupP (H : Hp) (v : V) (p : Pt) : Prop := ∃ t, v = .ref t ∧ H t = some (.tup (pVp p))
abbrev Tups (H : Hp) (ts : List V) (ps : List Pt) : Prop := Paired (TupP H) ts ps
theorem Tups.step {H H' : Hp} {ts : List V} {ps : List Pt} (h : Tups H ts ps) (k : ∀ b xs, H b = some (.tup xs) → H' b = some (.tup xs)) : Tups H' ts ps :=
  Paired.mapP h fun v p q => by
    obtain ⟨t, e, ht⟩ := q
    exact ⟨t, e, k _ _ ht⟩
theorem Tups.same {H H' : Hp} {ts : List V} {ps : List Pt} (h : Tups H ts ps) (s : Same H H') : Tups H' ts ps := h.step fun b xs e => s _ _ e
theorem but_tup {h : Addr} {H H' : Hp} {xs : List V} (e : H h = some (.lst xs)) (s : But h H H') : ∀ b zs, H b = some (.tup zs) → H' b = some (.tup zs) := fun b zs q => s _ _ (ne_of q e (by intro z; cases z)) q
theorem Tups.app {H : Hp} : ∀ {ts us : List V} {ps qs : List Pt}, Tups H ts ps → Tups H us qs → Tups H (ts ++ us) (ps ++ qs)
  | _, _, _, _, .nil, s => s
  | _, _, _, _, .cons r t, s => .cons r (Tups.app t s)
theorem Tups.len {H : Hp} {ts : List V} {ps : List Pt} (h : Tups H ts ps) : ts.length = ps.length := Paired.length h
theorem Tups.get {H : Hp} : ∀ {ts : List V} {ps : List Pt} {i : Nat} {v : V}, Tups H ts ps → ts[i]? = some v → ∃ p, ps[i]? = some p ∧ TupP H v p
  | _, _, _, _, .nil, e => by simp at e
  | _, _, 0, _, .cons r _, e => by
    simp at e
    subst e
    exact ⟨_, rfl, r⟩
  | _, _, i + 1, v, .cons _ t, e => by
    obtain ⟨p, h1, h2⟩ := Tups.get (i := i) (v := v) t (by simpa using e)
    exact ⟨p, by simpa using h1, h2⟩
theorem eqv_self (y : Int) (m d : Option Int) : PyData.eqv (pD y m d) (pD y m d) = true := by
  cases m <;> cases d <;> simp [PyData.eqv, PyData.eqvAll, oD]
def spOthers : Sp := fun vs H Q _ => ∃ (t : Addr) (y : Int) (m d : Option Int), vs = [.ref t] ∧ H t = some (.tup (pV y m d)) ∧ Good y m d ∧
  ∀ r H' ts ps, Same H H' → H r = none → H' r = some (.lst ts) → Tups H' ts ps → (∀ p ∈ ps, GoodP p ∧ p ≠ (y, m, d)) → ts.length ≤ 10 → Q (.ref r) H'
theorem sz3 : 3 ≤ sizeLine := by decide
def OthI (H : Hp) (t : Addr) (y : Int) (m d : Option Int) (n : Nat) (σ' : L2.St) (H' : Hp) : Prop := ∃ (l : Addr) (ts : List V) (ps : List Pt), σ' = [some (.ref t), some (.int y), some (oV m), some (oV d), some (.ref l), none] ∧ Same H H' ∧ H l = none ∧ H' l = some (.lst ts) ∧ Tups H' ts ps ∧
  (∀ p ∈ ps, p.2.1 = none → p.2.2 = none) ∧ ts.length ≤ n
section
variable {P : Program} {w : World} {K : PySem.W.Frag} {mg : Str → Option Value} {base : Heap} {C : Addr}
theorem Same.free {H H' : Hp} {l : Addr} (s : Same H H') (e : H' l = none) : H l = none := by
  cases q : H l with
  | none => rfl
  | some o =>
    rw [s l o q] at e
    cases e
theorem ok_others {f : Addr} {fd : FuncData} (D : Df K mg "_law_others" ["_law_parts_here"] sOthers f fd) (cG : Ca P w K mg base 2 "_law_good" ["_law_parts_here"] spGood) : FnOk P w K mg base CX0 3 f fd ["_law_parts_here"] spOthers := by
  refine D.fn.ok scOthers (fun vs H Q E h => ?_) (fun cdv A outer s H vs Q E hr h => ?_)
  · obtain ⟨t, y, m, d, rfl, _⟩ := h
    rfl
  · obtain ⟨t, y, m, d, rfl, ht, g, q⟩ := h
    refine ⟨_, pss_cons (ps_asg (pv 0) (pg_tup (by rfl) (pgs_cons (pg_name (i := 1) scOthers.nd rfl (.inl rfl)) (pgs_cons (pg_name (i := 2) scOthers.nd rfl (.inl rfl)) (pgs_cons (pg_name (i := 3) scOthers.nd rfl (.inl rfl)) pgs_nil)))))
      (C8.pss_cut (ps_set (i := 4) scOthers.nd rfl (.inl rfl) (pe_lst (pa_cons (pe_tup (pa_cons (pe_op op_add (pv 1) pe_int) (pa_cons (pv 2) (pa_cons (pv 3) pa_nil)))) (pa_cons (pe_tup (pa_cons (pe_op op_sub (pv 1) pe_int) (pa_cons (pv 2) (pa_cons (pv 3) pa_nil))))
        (pa_cons (pe_tup (pa_cons (pv 1) (pa_cons pe_non (pa_cons pe_non pa_nil)))) (pa_cons (pe_tup (pa_cons (pv 1) (pa_cons (pv 2) (pa_cons pe_non pa_nil)))) (pa_cons (pe_tup (pa_cons (pv 1) (pa_cons pe_int (pa_cons pe_int pa_nil)))) pa_nil)))))))
      (C8.pss_cut (ps_if (pt_cmpR op_notN (pv 2) pe_non (nomark _)) (pss_one (ps_set (i := 4) scOthers.nd rfl (.inl rfl) (pe_op op_cat (pv 4) (pe_lst (pa_cons (pe_tup (pa_cons (pv 1) (pa_cons (pe_op op_add (pv 2) pe_int) (pa_cons (pv 3) pa_nil)))) (pa_cons (pe_tup (pa_cons (pv 1) (pa_cons (pe_op op_sub (pv 2) pe_int) (pa_cons (pv 3) pa_nil)))) pa_nil)))))) pss_nil)
      (C8.pss_cut (ps_if (pt_cmpR op_notN (pv 3) pe_non (nomark _)) (pss_one (ps_set (i := 4) scOthers.nd rfl (.inl rfl) (pe_op op_cat (pv 4) (pe_lst (pa_cons (pe_tup (pa_cons (pv 1) (pa_cons (pv 2) (pa_cons (pe_op op_add (pv 3) pe_int) pa_nil)))) (pa_cons (pe_tup (pa_cons (pv 1) (pa_cons (pv 2) (pa_cons (pe_op op_sub (pv 3) pe_int) pa_nil))))
        (pa_cons (pe_tup (pa_cons (pv 1) (pa_cons (pv 3) (pa_cons (pv 2) pa_nil)))) pa_nil))))))) pss_nil)
      (pss_one (ps_ret (pe_lc (own := [("_law_one", 5)]) (g := gName 5) (tt := tAnd (tTest (tOp (rNeD K) (tVar 5) (tVar 0))) (tB (tCall spGood [] E0 (tCons (tVar 5) tNil)))) (by rfl) scOthers.nd (pi_list (pv 4))
        (blkOk_by (own := [("_law_one", 5)]) (N := ["_law_parts_here", "_law_y", "_law_m", "_law_d", "_law_some", "_law_one"]) (sc := defScope sOthers) (by decide +kernel)) (fun _ _ _ _ _ => pg_name (i := 5) scOthers.nd rfl (.inl rfl))
        (fun _ _ _ _ _ => pts_one (PW.pt (pw_and (pt_cmpR (op_neD hr.units) (pv 5) (pv 0) (nomark _)) (pw_and1 (pt_val (pe_ca cG hr (by decide) (by rfl) (pa_cons (pv 5) pa_nil)))))))
        (fun _ _ _ _ _ => pv 5))))))), ?_⟩
    have hmd : m = none → d = none := fun z => by
      have z3 := g.2.2
      rw [z] at z3
      exact z3
    refine ⟨_, rfl, t, _, rfl, SqT.of ht, rfl, _, _, rfl, _, _, rfl, _, _, rfl, rfl, ?_⟩
    refine ⟨OthI H t y m d 5, ?_, ?_⟩
    · refine ⟨_, rfl, y, 1, rfl, rfl, _, rfl, _, rfl, sz3, fun t1 n1 => ?_⟩
      refine ⟨_, rfl, y, 1, rfl, rfl, _, rfl, _, rfl, sz3, fun t2 n2 => ?_⟩
      refine ⟨_, rfl, sz3, fun t3 n3 => ?_⟩
      refine ⟨_, rfl, _, rfl, sz3, fun t4 n4 => ?_⟩
      refine ⟨_, rfl, sz3, fun t5 n5 => ?_⟩
      refine ⟨(by show 5 ≤ sizeLine; decide), fun l nl => ?_⟩
      have S5 := same_upd nl (o := .lst [.ref t1, .ref t2, .ref t3, .ref t4, .ref t5])
      have S4 := (same_upd n5 (o := .tup (pV y (some 1) (some 1)))).trans S5
      have S3 := (same_upd n4 (o := .tup (pV y m none))).trans S4
      have S2 := (same_upd n3 (o := .tup (pV y none none))).trans S3
      have S1 := (same_upd n2 (o := .tup (pV (y - 1) m d))).trans S2
      have S0 := (same_upd n1 (o := .tup (pV (y + 1) m d))).trans S1
      refine ⟨l, _, [(y + 1, m, d), (y - 1, m, d), (y, none, none), (y, m, none), (y, some 1, some 1)], rfl, S0, ?_, upd_same, ?_, ?_, by show 5 ≤ 5; decide⟩
      · exact Same.free ((same_upd n1).trans ((same_upd n2).trans ((same_upd n3).trans ((same_upd n4).trans (same_upd n5))))) nl
      · exact .cons ⟨t1, rfl, S1 _ _ upd_same⟩ (.cons ⟨t2, rfl, S2 _ _ upd_same⟩ (.cons ⟨t3, rfl, S3 _ _ upd_same⟩ (.cons ⟨t4, rfl, S4 _ _ upd_same⟩ (.cons ⟨t5, rfl, S5 _ _ upd_same⟩ .nil))))
      · intro p hp
        simp only [List.mem_cons, List.not_mem_nil, or_false] at hp
        rcases hp with rfl | rfl | rfl | rfl | rfl
        · exact hmd
        · exact hmd
        · exact fun _ => rfl
        · exact fun _ => rfl
        · exact fun z => by cases z
    rintro σ1 H1 ⟨l, ts, ps, rfl, sm, fl, hl, tp, mp, ln⟩
    refine ⟨OthI H t y m d 7, ?_, ?_⟩
    · cases m with
      | none => exact ⟨_, rfl, rfl, _, rfl, iteF ⟨l, ts, ps, rfl, sm, fl, hl, tp, mp, by omega⟩⟩
      | some i =>
        refine ⟨_, rfl, rfl, _, rfl, iteT ?_⟩
        refine ⟨_, rfl, _, rfl, _, rfl, i, 1, rfl, rfl, _, rfl, sz3, fun t1 n1 => ?_⟩
        refine ⟨_, rfl, _, rfl, i, 1, rfl, rfl, _, rfl, sz3, fun t2 n2 => ?_⟩
        refine ⟨(by show 2 ≤ sizeLine; decide), fun l2 nl => ?_⟩
        have S2 := same_upd nl (o := .lst [.ref t1, .ref t2])
        have S1 := (same_upd n2 (o := .tup (pV y (some (i - 1)) d))).trans S2
        have S0 := (same_upd n1 (o := .tup (pV y (some (i + 1)) d))).trans S1
        refine ⟨l, l2, ts, _, rfl, rfl, S0 _ _ hl, upd_same, fitN (by show ts.length + 2 ≤ 1000; omega), fun r nr => ?_⟩
        have S := same_upd nr (o := .lst (ts ++ [.ref t1, .ref t2]))
        refine ⟨r, _, ps ++ [(y, some (i + 1), d), (y, some (i - 1), d)], rfl, (sm.trans S0).trans S, Same.free (sm.trans S0) nr, upd_same, (tp.same (S0.trans S)).app (.cons ⟨t1, rfl, S _ _ (S1 _ _ upd_same)⟩ (.cons ⟨t2, rfl, S _ _ (S2 _ _ upd_same)⟩ .nil)), ?_, ?_⟩
        · intro p hp
          rcases List.mem_append.mp hp with hp | hp
          · exact mp p hp
          · simp only [List.mem_cons, List.not_mem_nil, or_false] at hp
            rcases hp with rfl | rfl
            · exact fun z => by cases z
            · exact fun z => by cases z
        · rw [List.length_append]
          show ts.length + 2 ≤ 7
          omega
    rintro σ2 H2 ⟨l, ts, ps, rfl, sm, fl, hl, tp, mp, ln⟩
    refine ⟨OthI H t y m d 10, ?_, ?_⟩
    · cases d with
      | none => exact ⟨_, rfl, rfl, _, rfl, iteF ⟨l, ts, ps, rfl, sm, fl, hl, tp, mp, by omega⟩⟩
      | some j =>
        refine ⟨_, rfl, rfl, _, rfl, iteT ?_⟩
        refine ⟨_, rfl, _, rfl, _, rfl, _, rfl, j, 1, rfl, rfl, sz3, fun t1 n1 => ?_⟩
        refine ⟨_, rfl, _, rfl, _, rfl, j, 1, rfl, rfl, sz3, fun t2 n2 => ?_⟩
        refine ⟨_, rfl, _, rfl, _, rfl, sz3, fun t3 n3 => ?_⟩
        refine ⟨(by show 3 ≤ sizeLine; decide), fun l2 nl => ?_⟩
        have S3 := same_upd nl (o := .lst [.ref t1, .ref t2, .ref t3])
        have S2 := (same_upd n3 (o := .tup (pV y (some j) m))).trans S3
        have S1 := (same_upd n2 (o := .tup (pV y m (some (j - 1))))).trans S2
        have S0 := (same_upd n1 (o := .tup (pV y m (some (j + 1))))).trans S1
        refine ⟨l, l2, ts, _, rfl, rfl, S0 _ _ hl, upd_same, fitN (by show ts.length + 3 ≤ 1000; omega), fun r nr => ?_⟩
        have S := same_upd nr (o := .lst (ts ++ [.ref t1, .ref t2, .ref t3]))
        refine ⟨r, _, ps ++ [(y, m, some (j + 1)), (y, m, some (j - 1)), (y, some j, m)], rfl, (sm.trans S0).trans S, Same.free (sm.trans S0) nr, upd_same, (tp.same (S0.trans S)).app (.cons ⟨t1, rfl, S _ _ (S1 _ _ upd_same)⟩ (.cons ⟨t2, rfl, S _ _ (S2 _ _ upd_same)⟩ (.cons ⟨t3, rfl, S _ _ (S3 _ _ upd_same)⟩ .nil))), ?_, ?_⟩
        · intro p hp
          rcases List.mem_append.mp hp with hp | hp
          · exact mp p hp
          · simp only [List.mem_cons, List.not_mem_nil, or_false] at hp
            rcases hp with rfl | rfl | rfl
            · exact fun z => by have := hmd z; cases this
            · exact fun z => by have := hmd z; cases this
            · exact fun z => by cases z
        · rw [List.length_append]
          show ts.length + 3 ≤ 10
          omega
    rintro σ3 H3 ⟨l, ts, ps, rfl, sm, fl, hl, tp, mp, ln⟩
    refine ⟨_, rfl, l, rfl, ⟨_, SqL.of hl⟩, fun L nL => ?_⟩
    have nLH : H L = none := Same.free sm nL
    refine lc_list (K := K) (a := l) (xs := ts) (fun i Hi => Same H3 Hi ∧ ∃ acc qs, Hi L = some (.lst acc) ∧ Tups Hi acc qs ∧ (∀ p ∈ qs, GoodP p ∧ p ≠ (y, m, d)) ∧ acc.length ≤ i) ⟨same_upd nL, [], [], upd_same, .nil, (fun p hp => by cases hp), Nat.le_refl _⟩ (fun i Hi _ z => z.1.seq (SqL.of hl)) ?_ ?_
    · rintro i x Hi hx ⟨s3, acc, qs, hL, ta, gq, la⟩
      obtain ⟨pi, hpi, tx, rfl, etx⟩ := tp.get hx
      have hi : i < ts.length := (List.getElem?_eq_some_iff.mp hx).1
      refine ⟨rfl, ?_⟩
      refine ⟨_, rfl, _, rfl, pD pi.1 pi.2.1 pi.2.2, pD y m d, dp3 (SqT.of (s3 _ _ etx)), dp3 (SqT.of (s3 _ _ (sm _ _ ht))), pD_shaped _ _ _, pD_shaped _ _ _, _, rfl, ?_⟩
      have stay : ∀ Hj, Same Hi Hj → Same H3 Hj ∧ ∃ acc qs, Hj L = some (.lst acc) ∧ Tups Hj acc qs ∧ (∀ p ∈ qs, GoodP p ∧ p ≠ (y, m, d)) ∧ acc.length ≤ i + 1 := fun Hj sj => ⟨s3.trans sj, acc, qs, sj _ _ hL, ta.same sj, gq, by omega⟩
      refine ite2 (fun c => ?_) (fun c => ?_)
      · refine ⟨_, rfl, tx, pi.1, pi.2.1, pi.2.2, rfl, s3 _ _ etx, mp pi (List.mem_of_getElem? hpi), fun b Hj sj gb => ⟨b, rfl, ?_⟩⟩
        cases b with
        | false => exact iteF (stay Hj sj)
        | true =>
          refine iteT ⟨_, rfl, acc, sj _ _ hL, small1000 (by omega), fun b z e => ?_, acc ++ [.ref tx], qs ++ [pi], upd_same, ?_, ?_, ?_⟩
          · rw [upd_ne (ne_of_none e nL)]
            exact sj _ _ (s3 _ _ e)
          · refine Tups.step (H := Hj) ((ta.same sj).app (.cons ⟨tx, rfl, sj _ _ (s3 _ _ etx)⟩ .nil)) fun b zs e => ?_
            rw [upd_ne (ne_of e (sj _ _ hL) (by intro z; cases z))]
            exact e
          · intro p hp
            rcases List.mem_append.mp hp with hp | hp
            · exact gq p hp
            · simp only [List.mem_cons, List.not_mem_nil, or_false] at hp
              subst hp
              refine ⟨gb rfl, fun z => ?_⟩
              rw [z] at c
              rw [show (pD (y, m, d).1 (y, m, d).2.1 (y, m, d).2.2) = pD y m d from rfl, eqv_self] at c
              cases c
          · rw [List.length_append]
            show acc.length + 1 ≤ i + 1
            omega
      · exact iteF (stay Hi (Same.refl Hi))
    · rintro He ⟨s3, acc, qs, hL, ta, gq, la⟩
      exact q L He acc qs (sm.trans s3) nLH hL ta gq (by omega)
end
end K1
namespace K1
open PySem PySem.Spec PyProof.Rows L2
structure Own (P : Program) (w : World) (K : PySem.W.Frag) (mg : Str → Option Value) (base : Heap) (C fE fS fR : Addr) (fdE fdS fdR : FuncData) : Prop where
  W : OwnC K C fE
  Z : KitC K C
  okE : FnOk P w K mg base CX0 1 fE fdE ["self", "other"] (spEqD C)
  bdE : Binds K fdE ["self", "other"] []
  hs : PySem.W.findIn K (.ref C) "__str__" = some (some (.ref fS))
  sf : PySem.W.isFn K (.ref fS) = true
  okS : FnOk P w K mg base CX0 1 fS fdS ["self"] (spStrD C)
  bdS : Binds K fdS ["self"] []
  hr : PySem.W.findIn K (.ref C) "__repr__" = some (some (.ref fR))
  rf : PySem.W.isFn K (.ref fR) = true
  okR : FnOk P w K mg base CX0 1 fR fdR ["self"] (spReprD C)
  bdR : Binds K fdR ["self"] []
def toldL (os : List (Option Int)) : List Str := os.filterMap fun o => o.map fun i => Str.ofString (toString i)
theorem toldL_good {y : Int} {m d : Option Int} (g : Good y m d) : toldL [some y, m, d] = toldS y m d := by
  cases m with
  | none =>
    have : d = none := g.2.2
    subst this
    rfl
  | some i => cases d <;> rfl
theorem told_len {y : Int} {m d : Option Int} (g : Good y m d) : ((toldS y m d).map (·.length)).sum + (toldS y m d).length * (", " : Str).length ≤ 1000 ∧ (Str.join ", " (toldS y m d)).length ≤ 100 := by
  obtain ⟨ty, tm, td⟩ := good_tiny g
  have l1 := txt_len ty
  cases m with
  | none =>
    refine ⟨?_, ?_⟩
    · show (Str.ofString (toString y)).length + 0 + 1 * (", " : Str).length ≤ 1000
      rw [dCom]; omega
    · show (Str.ofString (toString y)).length ≤ 100
      omega
  | some i =>
    have l2 := txt_len (i := i) tm
    cases d with
    | none =>
      refine ⟨?_, ?_⟩
      · show (Str.ofString (toString y)).length + ((Str.ofString (toString i)).length + 0) + 2 * (", " : Str).length ≤ 1000
        rw [dCom]; omega
      · show (Str.ofString (toString y) ++ ", " ++ Str.ofString (toString i)).length ≤ 100
        rw [strLen_append, strLen_append, dCom]; omega
    | some j =>
      have l3 := txt_len (i := j) td
      refine ⟨?_, ?_⟩
      · show (Str.ofString (toString y)).length + ((Str.ofString (toString i)).length + ((Str.ofString (toString j)).length + 0)) + 3 * (", " : Str).length ≤ 1000
        rw [dCom]; omega
      · show (Str.ofString (toString y) ++ ", " ++ (Str.ofString (toString i) ++ ", " ++ Str.ofString (toString j))).length ≤ 100
        rw [strLen_append, strLen_append, strLen_append, strLen_append, dCom]; omega
theorem same3_self (y : Int) (m d : Option Int) : same3 y m d y m d = true := by simp [same3]
theorem same3_not {p q : Pt} (h : p ≠ q) : same3 p.1 p.2.1 p.2.2 q.1 q.2.1 q.2.2 = false := by
  obtain ⟨y, m, d⟩ := p
  obtain ⟨y', m', d'⟩ := q
  cases e : same3 y m d y' m' d' with
  | false => rfl
  | true =>
    unfold same3 at e
    simp only [Bool.and_eq_true, decide_eq_true_eq] at e
    obtain ⟨rfl, rfl, rfl⟩ := e
    exact absurd rfl h
abbrev DayQ (C : Addr) (H : Hp) (a : Addr) (p : Pt) : Prop := DayAt C H a p.1 p.2.1 p.2.2
theorem oV_inj {m m' : Option Int} (h : oV m = oV m') : m = m' := by
  cases m <;> cases m' <;> simp [oV] at h <;> simp [h]
theorem DayQ.uniq {C : Addr} {H : Hp} {a : Addr} {p q : Pt} (h : DayQ C H a p) (k : DayQ C H a q) : p = q := by
  obtain ⟨dx, e⟩ := h
  obtain ⟨dz, e2⟩ := k
  rw [e] at e2
  have z := Option.some.inj e2
  unfold dayF at z
  injection z with _ _ z3
  simp only [List.cons.injEq, Prod.mk.injEq, true_and, and_true] at z3
  obtain ⟨z4, z5, z6⟩ := z3
  obtain ⟨y, m, d⟩ := p
  obtain ⟨y', m', d'⟩ := q
  simp only at z4 z5 z6
  rw [V.int.inj z4, oV_inj z5, oV_inj z6]
theorem Paired.mem1 {α β : Type} {R : α → β → Prop} : ∀ {as : List α} {bs : List β}, Paired R as bs → ∀ a ∈ as, ∃ b ∈ bs, R a b
  | _, _, .nil, a, h => by cases h
  | _, _, .cons (b := b) r t, a, h => by
    rcases List.mem_cons.mp h with e | e
    · rw [e]
      exact ⟨b, List.mem_cons_self, r⟩
    · obtain ⟨c, h1, h2⟩ := Paired.mem1 t a e
      exact ⟨c, List.mem_cons_of_mem _ h1, h2⟩
theorem neStr {A B : Prop} {x y : Str} (q : x = y) (h : B) : if (!decide (V.str x = V.str y)) = true then A else B := by
  rw [q, decide_eq_true rfl]
  exact iteF h
theorem iteF_of {A B : Prop} {b : Bool} (e : b = false) (h : B) : if b = true then A else B := by
  rw [e]
  exact iteF h
theorem iteT_of {A B : Prop} {b : Bool} (e : b = true) (h : A) : if b = true then A else B := by
  rw [e]
  exact iteT h
theorem any_rep (n : Nat) : (List.replicate n false).any id = false := by
  induction n with
  | zero => rfl
  | succ n ih => rw [List.replicate_succ, List.any_cons, ih]; rfl
theorem Hand.updL {n : Int} {H : Hp} {a l : Addr} {o : HO} (h : Hand n H a) (ne : l ≠ a) : Hand n (upd H l o) a := by
  obtain ⟨g, m, c, e, r⟩ := h
  exact ⟨g, m, c, by rw [upd_ne ne.symm]; exact e, r⟩
/-- what stands ready when the strange things are asked -/
structure Rdy (C : Addr) (H : Hp) (y : Int) (m d : Option Int) (a b t L : Addr) (as : List Addr) (ps : List Pt) : Prop where
  da : DayQ C H a (y, m, d)
  db : DayQ C H b (y, m, d)
  ab : b ≠ a
  ht : H t = some (.tup (pV y m d))
  hL : H L = some (.lst (as.map V.ref))
  ds : Paired (DayQ C H) as ps
  ne : ∀ p ∈ ps, p ≠ (y, m, d)
  few : as.length ≤ 10
theorem Rdy.same {C : Addr} {H H' : Hp} {y : Int} {m d : Option Int} {a b t L : Addr} {as : List Addr} {ps : List Pt} (r : Rdy C H y m d a b t L as ps) (s : Same H H') : Rdy C H' y m d a b t L as ps :=
  ⟨DayAt.same r.da s, DayAt.same r.db s, r.ab, s _ _ r.ht, s _ _ r.hL, Paired.mapP r.ds fun _ _ q => DayAt.same q s, r.ne, r.few⟩
theorem Rdy.other {C : Addr} {H : Hp} {y : Int} {m d : Option Int} {a b t L : Addr} {as : List Addr} {ps : List Pt} (r : Rdy C H y m d a b t L as ps) : ∀ c ∈ as, ∃ p, DayQ C H c p ∧ p ≠ (y, m, d) ∧ c ≠ a ∧ c ≠ b := fun c hc => by
  obtain ⟨p, hp, hd⟩ := Paired.mem1 r.ds c hc
  refine ⟨p, hd, r.ne p hp, fun z => ?_, fun z => ?_⟩
  · rw [z] at hd
    exact r.ne p hp (hd.uniq r.da)
  · rw [z] at hd
    exact r.ne p hp (hd.uniq r.db)
def spRight : Sp := fun vs H Q _ => ∃ h : Addr, vs = [.ref h] ∧ Hand 0 H h ∧ ∀ H', But h H H' → Q (.bl true) H'
section
variable {P : Program} {w : World} {K : PySem.W.Frag} {mg : Str → Option Value} {base : Heap} {C : Addr}
theorem eq_ask {H : Hp} {Q : VK} {c a : Addr} {p q : Pt} (hc : DayQ C H c p) (ha : DayQ C H a q) (h : Q (.bl (same3 p.1 p.2.1 p.2.2 q.1 q.2.1 q.2.2)) H) : spEqD C [.ref c, .ref a] H Q E0 :=
  ⟨c, .ref a, p.1, p.2.1, p.2.2, rfl, hc, .inr ⟨a, q.1, q.2.1, q.2.2, rfl, ha, h⟩⟩
theorem ok_right {f fE fS fR : Addr} {fd fdE fdS fdR : FuncData} (D : Df K mg "_law_right" ["_law_hand_here"] sRight f fd) (T : Txt K mg C) (O : Own P w K mg base C fE fS fR fdE fdS fdR) (cP : Ca P w K mg base 3 "_law_parts" ["_law_hand_here"] spParts)
    (cM : Ca P w K mg base 6 "_law_made" ["_law_hand_here", "_law_parts_here"] (spMade C)) (cX : Ca P w K mg base 1 "_law_day_text" ["_law_parts_here"] spText) (cO : Ca P w K mg base 3 "_law_others" ["_law_parts_here"] spOthers) :
    Gn P w K mg base 8 f fd ["_law_hand_here"] spRight := by
  refine gn_body D.fn scRight (fun vs H Q E h => ?_) (fun cdv A outer s H vs Q E hg hr h => ?_)
  · obtain ⟨h, rfl, _⟩ := h
    rfl
  · obtain ⟨h, rfl, hh, q⟩ := h
    have r1 := hr.mono (show 1 ≤ 7 by decide)
    have r2 := hr.mono (show 2 ≤ 7 by decide)
    have r3 := hr.mono (show 3 ≤ 7 by decide)
    refine ⟨_, pss_cons (ps_set (i := 1) scRight.nd rfl (.inl rfl) (pe_ca cP hr (by decide) (by rfl) (pa_cons (pv 0) pa_nil)))
      (pss_cons (ps_asg (pe_tup (pa_cons (pe_ca cM hr (by decide) (by rfl) (pa_cons (pv 0) (pa_cons (pv 1) pa_nil))) (pa_cons (pe_ca cM hr (by decide) (by rfl) (pa_cons (pv 0) (pa_cons (pv 1) pa_nil))) pa_nil))) (pg_tup (by rfl) (pgs_cons (pg_name (i := 2) scRight.nd rfl (.inr rfl)) (pgs_cons (pg_name (i := 3) scRight.nd rfl (.inl rfl)) pgs_nil))))
      (pss_cons (ps_if (PW.pt (pw_or (pt_cmpR op_ne (pe_callB (cr_reprD hg hr) (by rfl) T.repr (by decide +kernel) (pa_cons (pe_tup (pa_cons (pe_fld (pv 2) rfl) (pa_cons (pe_fld (pv 2) rfl) (pa_cons (pe_fld (pv 2) rfl) pa_nil)))) pa_nil)) (pe_callB (cr_reprD hg hr) (by rfl) T.repr (by decide +kernel) (pa_cons (pv 1) pa_nil)) (nomark _)) (pw_or (pt_not (pt_cmpR (op_eqL O.W O.Z r1 O.okE O.bdE) (pv 2) (pv 3) (nomark _))) (pw_or1 (pt_cmpR (op_neL O.W r2 O.okE O.bdE) (pv 2) (pv 3) (nomark _)))))) (pss_one (ps_ret pe_bl)) pss_nil)
      (pss_cons (ps_setLc (i := 4) (own := [("_law_part", 7)]) (g := gName 7) (tt := tTest (tOp (fun x y H Q => y = .non ∧ Q (.bl (!decide (x = .non))) H) (tVar 7) (tC .non))) (te := tCB (fun xs H Q => ∃ i, xs = [.int i] ∧ i.natAbs.log2 < 1920 ∧ Q (.str (toString i)) H) (tCons (tVar 7) tNil)) (by rfl) scRight.nd rfl rfl
        (sw_true rfl rfl rfl (by decide +kernel)) (pi_tup (pv 1)) (blkOk_by (own := [("_law_part", 7)]) (N := ["_law_hand_here", "_law_parts_here", "_law_one", "_law_other", "_law_told", "_law_rest", "_law_strange", "_law_part", "_law_some"]) (sc := defScope sRight) (by decide +kernel))
        (fun _ _ _ _ _ => pg_name (i := 7) scRight.nd rfl (.inl rfl)) (fun _ _ _ _ _ => pts_one (pt_cmpR op_notN (pv 7) pe_non (nomark _))) (fun _ _ _ _ _ => pe_callTy call_str_int (by rfl) T.str (by decide +kernel) (pa_cons (pv 7) pa_nil)))
      (pss_cons (ps_if (PW.pt (pw_or (pt_cmpR op_ne (pe_callTy (cr_strO O.hs O.sf r3 O.okS O.bdS) (by rfl) T.str (by decide +kernel) (pa_cons (pv 2) pa_nil)) (pe_ca cX hr (by decide) (by rfl) (pa_cons (pv 1) pa_nil)) (nomark _)) (pw_or1 (pt_cmpR op_ne (pe_callB (cr_reprO O.hr O.rf r2 O.okR O.bdR) (by rfl) T.repr (by decide +kernel) (pa_cons (pv 2) pa_nil)) (pe_op op_add_str (pe_op op_add_str pe_str (pe_join pe_str (pv 4))) pe_str) (nomark _))))) (pss_one (ps_ret pe_bl)) pss_nil)
      (C8.pss_cut (ps_setLc (i := 5) (own := [("_law_some", 8)]) (g := gName 8) (tt := tYes) (te := tCall (spMade C) [] E0 (tCons (tVar 0) (tCons (tVar 8) tNil))) (by rfl) scRight.nd rfl rfl
        (sw_true rfl rfl rfl (by decide +kernel)) (pi_list (pe_ca cO hr (by decide) (by rfl) (pa_cons (pv 1) pa_nil))) (blkOk_by (own := [("_law_some", 8)]) (N := ["_law_hand_here", "_law_parts_here", "_law_one", "_law_other", "_law_told", "_law_rest", "_law_strange", "_law_part", "_law_some"]) (sc := defScope sRight) (by decide +kernel))
        (fun _ _ _ _ _ => pg_name (i := 8) scRight.nd rfl (.inl rfl)) (fun _ _ _ _ _ => pts_nil) (fun _ _ _ _ _ => (pe_ca cM hr (by decide) (by rfl) (pa_cons (pv 0) (pa_cons (pv 8) pa_nil)))))
      (pss_cons (ps_set (i := 6) scRight.nd rfl (.inl rfl) (pe_lst (pa_cons (pv 1) (pa_cons (pe_callTy call_list_of (by rfl) T.list (by decide +kernel) (pa_cons (pv 1) pa_nil)) (pa_cons (pe_callTy (cr_strO O.hs O.sf r3 O.okS O.bdS) (by rfl) T.str (by decide +kernel) (pa_cons (pv 2) pa_nil)) (pa_cons (pe_callB (cr_reprO O.hr O.rf r2 O.okR O.bdR) (by rfl) T.repr (by decide +kernel) (pa_cons (pv 2) pa_nil)) (pa_cons (pe_ix ix_tup (pv 1) pe_int (fun _ _ => rfl)) (pa_cons pe_non (pa_cons (pe_tup pa_nil) pa_nil)))))))))
      (pss_cons (ps_if (pt_val (pe_callB (cr_any (by rfl)) (by rfl) T.any (by decide +kernel) (pa_cons (pe_lc (own := [("_law_some", 8)]) (g := gName 8) (tt := tYes) (te := tOrV (tOp (rEqL C (spEqD C)) (tVar 2) (tVar 8)) (tOp (rEqR C (spEqD C)) (tVar 8) (tVar 2))) (by rfl) scRight.nd
        (pi_list (pe_op op_cat (pv 5) (pv 6))) (blkOk_by (own := [("_law_some", 8)]) (N := ["_law_hand_here", "_law_parts_here", "_law_one", "_law_other", "_law_told", "_law_rest", "_law_strange", "_law_part", "_law_some"]) (sc := defScope sRight) (by decide +kernel))
        (fun _ _ _ _ _ => pg_name (i := 8) scRight.nd rfl (.inl rfl)) (fun _ _ _ _ _ => pts_nil) (fun _ _ _ _ _ => pe_or (pe_cmpR (op_eqL O.W O.Z r1 O.okE O.bdE) (pv 2) (pv 8) (nomark _)) (pe_one (pe_cmpR (op_eqR O.W r1 O.okE O.bdE) (pv 8) (pv 2) (nomark _))))) pa_nil))) (pss_one (ps_ret pe_bl)) pss_nil)
      (pss_one (ps_ret (pe_and (pe_cmpR (op_inO O.W r3 O.okE O.bdE) (pv 2) (pe_op op_cat (pv 5) (pe_lst (pa_cons (pv 3) pa_nil))) (by rfl)) (pe_one (pe_cmpR (op_notInO O.W r3 O.okE O.bdE) (pv 2) (pv 5) (by rfl))))))))))))), ?_⟩
    refine ⟨_, rfl, h, 0, rfl, hh, by decide, fun t y m d H1 ht g hH1 b1 => ?_⟩
    obtain ⟨ty, tm, td⟩ := good_tiny g
    have sh := shows3 ty tm td
    have h1 : Hand 9 H1 h := hH1.mono (by decide)
    obtain ⟨z1, e1⟩ := h1.at_
    refine ⟨_, rfl, _, rfl, h, t, 9, y, m, d, rfl, ht, g, h1, by decide, fun a H2 da na hH2 b2 => ?_⟩
    have h2 : Hand 10 H2 h := hH2.mono (by decide)
    have ht2 := but_tup e1 b2 _ _ ht
    obtain ⟨z2, e2⟩ := h2.at_
    refine ⟨_, rfl, _, rfl, h, t, 10, y, m, d, rfl, ht2, g, h2, by decide, fun b H3 db nb hH3 b3 => ?_⟩
    have h3 : Hand 11 H3 h := hH3.mono (by decide)
    have ht3 := but_tup e2 b3 _ _ ht2
    have da3 : DayAt C H3 a y m d := da.but h2 b3
    have ab : b ≠ a := by
      obtain ⟨dx, e⟩ := da
      exact (ne_of_none e nb).symm
    refine ⟨(by show 2 ≤ sizeLine; decide), fun tp ntp => ?_⟩
    have s4 := same_upd ntp (o := .tup [.ref a, .ref b])
    refine ⟨tp, _, rfl, SqT.of upd_same, rfl, _, _, rfl, _, _, rfl, rfl, ?_⟩
    obtain ⟨dxa, ea⟩ := da3.same s4
    obtain ⟨dxb, eb⟩ := db.same s4
    have b4 : But h H (upd H3 tp (.tup [.ref a, .ref b])) := ((b1.trans b2).trans b3).trans (Same.but s4 h)
    have ht4 := s4 _ _ ht3
    have h4 := h3.same s4
    generalize upd H3 tp (.tup [.ref a, .ref b]) = H4 at *
    -- the values, ==, !=
    refine ⟨_, rfl, a, C, dxa, _, _, rfl, ea, T.cl, T.nY, f_y _ _ _, _, rfl, a, C, dxa, _, _, rfl, ea, T.cl, T.nM, f_m _ _ _, _, rfl, a, C, dxa, _, _, rfl, ea, T.cl, T.nD, f_d _ _ _, sz3, fun u nu => ?_⟩
    have s5 := same_upd nu (o := .tup (pV y m d))
    refine ⟨u, pD y m d, rfl, dp3 (SqT.of upd_same), sh.sh, sh.nd, Nat.le_trans sh.dp (by decide), sh.fit (by decide), ?_⟩
    refine ⟨_, rfl, t, pD y m d, rfl, dp3 (SqT.of (s5 _ _ ht4)), sh.sh, sh.nd, Nat.le_trans sh.dp (by decide), sh.fit (by decide), rfl, _, rfl, neStr rfl ?_⟩
    refine ⟨_, rfl, _, rfl, a, dxa, _, rfl, s5 _ _ ea, .inr ⟨b, dxb, _, rfl, s5 _ _ eb⟩, eq_ask (p := (y, m, d)) (q := (y, m, d)) ⟨dxa, s5 _ _ ea⟩ ⟨dxb, s5 _ _ eb⟩ ⟨_, rfl, _, rfl, ?_⟩⟩
    refine iteF_of (by show (!same3 y m d y m d) = false; rw [same3_self]; rfl) ?_
    refine ⟨_, rfl, _, rfl, a, dxa, _, b, dxb, _, rfl, s5 _ _ ea, rfl, s5 _ _ eb, eq_ask (p := (y, m, d)) (q := (y, m, d)) ⟨dxa, s5 _ _ ea⟩ ⟨dxb, s5 _ _ eb⟩ ⟨_, rfl, _, rfl, ?_⟩⟩
    refine iteF_of (by show (!same3 y m d y m d) = false; rw [same3_self]; rfl) ?_
    replace ea := s5 _ _ ea
    replace eb := s5 _ _ eb
    replace ht4 := s5 _ _ ht4
    replace h4 := h4.same s5
    replace b4 : But h H (upd H4 u (.tup (pV y m d))) := b4.trans (Same.but s5 h)
    generalize upd H4 u (.tup (pV y m d)) = H5 at *
    -- told
    refine ⟨_, rfl, t, rfl, ⟨_, SqT.of ht4⟩, fun L1 nL1 => ?_⟩
    refine lc_tup (K := K) (a := t) (xs := ([some y, m, d]).map oV) (fun i Hi => Same H5 Hi ∧ Hi L1 = some (.lst ((toldL ([some y, m, d].take i)).map V.str))) ⟨same_upd nL1, upd_same⟩ (fun i Hi _ z => Same.seqT z.1 (SqT.of ht4)) ?_ ?_
    · rintro i x Hi hx ⟨sm, hL⟩
      rw [List.getElem?_map] at hx
      obtain ⟨o, ho, rfl⟩ := Option.map_eq_some_iff.mp hx
      have om := List.mem_of_getElem? ho
      have eT : toldL ([some y, m, d].take (i + 1)) = toldL ([some y, m, d].take i) ++ toldL [o] := by
        rw [List.take_add_one, ho]
        unfold toldL
        rw [List.filterMap_append]
        rfl
      have len : (toldL ([some y, m, d].take i)).length ≤ 3 := by
        refine Nat.le_trans (List.length_filterMap_le _ _) ?_
        rw [List.length_take]
        exact Nat.min_le_right _ _
      refine ⟨rfl, ?_⟩
      cases o with
      | none =>
        refine ⟨_, rfl, rfl, _, rfl, iteF ⟨sm, ?_⟩⟩
        rw [eT]
        show Hi L1 = some (.lst ((toldL ([some y, m, d].take i) ++ []).map V.str))
        rw [List.append_nil]
        exact hL
      | some k =>
        have tk : Tiny k := by
          simp only [List.mem_cons, List.not_mem_nil, or_false] at om
          rcases om with z | z | z
          · cases z
            exact ty
          · rw [← z] at tm
            exact tm
          · rw [← z] at td
            exact td
        refine ⟨_, rfl, rfl, _, rfl, iteT ⟨_, rfl, k, rfl, int_small tk, _, hL, small1000 (by rw [List.length_map]; omega), fun b z e => ?_, ?_⟩⟩
        · rw [upd_ne (ne_of_none e nL1)]
          exact sm _ _ e
        · rw [upd_same, eT, List.map_append]
          rfl
    rintro H6 ⟨s6, hL6⟩
    replace hL6 : H6 L1 = some (.lst ((toldS y m d).map V.str)) := by
      rw [hL6, ← toldL_good g]
      rfl
    replace ea := s6 _ _ ea
    replace eb := s6 _ _ eb
    replace ht4 := s6 _ _ ht4
    replace h4 := h4.same s6
    replace b4 := b4.trans (Same.but s6 h)
    -- str, repr
    refine ⟨_, rfl, a, dxa, _, rfl, ea, ⟨a, y, m, d, rfl, ⟨dxa, ea⟩, g, _, rfl, ?_⟩⟩
    refine ⟨_, rfl, t, y, m, d, rfl, ht4, g, fun H7 s7 => ⟨rfl, _, rfl, neStr rfl ?_⟩⟩
    replace ea := s7 _ _ ea
    replace eb := s7 _ _ eb
    replace ht4 := s7 _ _ ht4
    replace h4 := h4.same s7
    replace b4 := b4.trans (Same.but s7 h)
    have tl := told_len g
    have je : Txt.join ", " (toldS y m d) = Str.join ", " (toldS y m d) := TL.join_eq _ _
    refine ⟨_, rfl, a, dxa, _, rfl, ea, ⟨a, y, m, d, rfl, ⟨dxa, ea⟩, g, _, rfl, ?_⟩⟩
    refine ⟨⟨_, rfl⟩, _, rfl, _, L1, toldS y m d, rfl, rfl, .inl (SqL.of (s7 _ _ hL6)), Nat.le_trans tl.1 (by decide), _, _, rfl, rfl, fitN ?_, _, _, rfl, rfl, fitN ?_, rfl, _, rfl, neStr ?_ ?_⟩
    · rw [je, dPar]; omega
    · rw [strLen_append, je, dPar, dEnd]; omega
    · rw [je]
      rfl
    -- the others
    refine ⟨fun σ' H' => ∃ (L : Addr) (as : List Addr) (ps : List Pt), σ' = [some (.ref h), some (.ref t), some (.ref a), some (.ref b), some (.ref L1), some (.ref L), none, none, none] ∧ But h H H' ∧ Rdy C H' y m d a b t L as ps, ?_, ?_⟩
    · refine ⟨_, rfl, t, y, m, d, rfl, ht4, g, fun r H8 ts ps s8 nr hr8 tps gp ln => ⟨r, rfl, ⟨_, SqL.of hr8⟩, fun L nL => ?_⟩⟩
      have rh : r ≠ h := h4.fresh nr
      have h8 := h4.same s8
      have Lh : L ≠ h := h8.fresh nL
      obtain ⟨z8, e8⟩ := h8.at_
      have plen := tps.len
      refine lc_list (K := K) (a := r) (xs := ts) (fun i Hi => But h H8 Hi ∧ Hand (11 + i) Hi h ∧ ∃ as : List Addr, Hi L = some (.lst (as.map V.ref)) ∧ Paired (DayQ C Hi) as (ps.take i)) ⟨Same.but (same_upd nL) h, (h8.same (same_upd nL)).mono (by decide), [], upd_same, .nil⟩
        (fun i Hi _ z => SqL.of (z.1 _ _ rh hr8)) ?_ ?_
      · rintro i x Hi hx ⟨bi, hi, as, hL, dq⟩
        obtain ⟨p, hp, tx, rfl, etx⟩ := tps.get hx
        have ilt : i < ts.length := (List.getElem?_eq_some_iff.mp hx).1
        have gpp := gp p (List.mem_of_getElem? hp)
        have alen : as.length ≤ 10 := by
          have z := Paired.length dq
          rw [List.length_take] at z
          omega
        refine ⟨rfl, ?_⟩
        unfold tYes
        refine iteT ?_
        refine ⟨_, rfl, _, rfl, h, tx, 11 + i, p.1, p.2.1, p.2.2, rfl, but_tup e8 bi _ _ etx, gpp.1, hi, (by show (11 : Int) + i ≤ 1000000; omega), fun x H' dx nx hx' bx => ?_⟩
        have hL' := bx _ _ Lh hL
        refine ⟨as.map V.ref, hL', small1000 (by rw [List.length_map]; omega), fun b z nb e => ?_, ?_, as ++ [x], ?_, ?_⟩
        · rw [upd_ne (ne_of_none e nL)]
          exact bx _ _ nb (bi _ _ nb e)
        · exact (hx'.updL Lh).mono (by omega)
        · rw [upd_same, List.map_append]
          rfl
        · rw [List.take_add_one, hp]
          have keepD : ∀ v z, DayQ C H' v z → DayQ C (upd H' L (.lst (as.map V.ref ++ [.ref x]))) v z := fun v z q => by
            obtain ⟨dx, eq⟩ := q
            refine ⟨dx, ?_⟩
            rw [upd_ne (ne_of eq hL' (by intro z; cases z))]
            exact eq
          exact Paired.mapP (Paired.snoc (Paired.mapP dq fun v z q => DayAt.but q hi bx) dx) keepD
      · rintro H9 ⟨b9, h9, as, hL9, dq⟩
        rw [plen, List.take_length] at dq
        refine ⟨L, as, ps, rfl, (b4.trans (Same.but s8 h)).trans b9, ⟨?_, ?_, ab, but_tup e8 b9 _ _ (s8 _ _ ht4), hL9, dq, fun p hp => (gp p hp).2, ?_⟩⟩
        · exact DayAt.but ⟨dxa, s8 _ _ ea⟩ h8 b9
        · exact DayAt.but ⟨dxb, s8 _ _ eb⟩ h8 b9
        · have z := Paired.length dq
          omega
    rintro σ' H9 ⟨L, as, ps, rfl, b9, R⟩
    clear ea eb ht4 h4 b4
    -- strange things
    refine ⟨_, rfl, _, rfl, t, _, rfl, .inr (SqT.of R.ht), fun q1 nq1 => ?_⟩
    have s10 := same_upd nq1 (o := .lst (pV y m d))
    have R10 := R.same s10
    obtain ⟨dxa, ea⟩ := R10.da
    refine ⟨_, rfl, a, dxa, _, rfl, ea, ⟨a, y, m, d, rfl, ⟨dxa, ea⟩, g, _, rfl, ?_⟩⟩
    refine ⟨_, rfl, a, dxa, _, rfl, ea, ⟨a, y, m, d, rfl, ⟨dxa, ea⟩, g, _, rfl, ?_⟩⟩
    refine ⟨_, rfl, t, _, 0, _, rfl, rfl, SqT.of R10.ht, atI_nat (j := 0) rfl, ?_⟩
    refine ⟨(by show 0 ≤ sizeLine; decide), fun q2 nq2 => ⟨(by show 7 ≤ sizeLine; decide), fun S nS => ?_⟩⟩
    have s11 := same_upd nq2 (o := .tup [])
    have s12 := same_upd nS (o := .lst [V.ref t, V.ref q1, V.str (dayText y m d), V.str (dayRepr y m d), V.int y, V.non, V.ref q2])
    have R12 := R10.same (s11.trans s12)
    refine ⟨_, rfl, _, rfl, L, S, as.map V.ref, _, rfl, rfl, R12.hL, upd_same, fitN ?_, fun cl ncl => ⟨cl, rfl, ⟨_, SqL.of upd_same⟩, fun L2 nL2 => ?_⟩⟩
    · rw [List.length_map]
      have := R12.few
      show as.length + 7 ≤ 1000
      omega
    have s13 := same_upd ncl (o := .lst (as.map V.ref ++ [V.ref t, V.ref q1, V.str (dayText y m d), V.str (dayRepr y m d), V.int y, V.non, V.ref q2]))
    have R13 := R12.same s13
    have hcl := upd_same (H := upd (upd (upd H9 q1 (.lst (pV y m d))) q2 (.tup [])) S (.lst [V.ref t, V.ref q1, V.str (dayText y m d), V.str (dayRepr y m d), V.int y, V.non, V.ref q2])) (a := cl) (o := .lst (as.map V.ref ++ [V.ref t, V.ref q1, V.str (dayText y m d), V.str (dayRepr y m d), V.int y, V.non, V.ref q2]))
    have eq1 := s13 _ _ (s12 _ _ (s11 _ _ (upd_same (H := H9) (a := q1) (o := .lst (pV y m d)))))
    have eq2 := s13 _ _ (s12 _ _ (upd_same (H := upd H9 q1 (.lst (pV y m d))) (a := q2) (o := .tup [])))
    have b13 := b9.trans (Same.but (s10.trans ((s11.trans s12).trans s13)) h)
    generalize upd (upd (upd (upd H9 q1 (.lst (pV y m d))) q2 (.tup [])) S (.lst [V.ref t, V.ref q1, V.str (dayText y m d), V.str (dayRepr y m d), V.int y, V.non, V.ref q2])) cl (.lst (as.map V.ref ++ [V.ref t, V.ref q1, V.str (dayText y m d), V.str (dayRepr y m d), V.int y, V.non, V.ref q2])) = Hc at *
    have key : ∀ x ∈ as.map V.ref ++ [V.ref t, V.ref q1, V.str (dayText y m d), V.str (dayRepr y m d), V.int y, V.non, V.ref q2], (∃ tt, Odd Hc x tt) ∨ ∃ (c : Addr) (p : Pt), x = .ref c ∧ DayQ C Hc c p ∧ p ≠ (y, m, d) := by
      intro x hx
      rcases List.mem_append.mp hx with hx | hx
      · obtain ⟨c, hc, rfl⟩ := List.mem_map.mp hx
        obtain ⟨p, h1, h2, _⟩ := R13.other c hc
        exact .inr ⟨c, p, rfl, h1, h2⟩
      · simp only [List.mem_cons, List.not_mem_nil, or_false] at hx
        rcases hx with rfl | rfl | rfl | rfl | rfl | rfl | rfl
        · exact .inl ⟨_, .tup R13.ht⟩
        · exact .inl ⟨_, .lst eq1⟩
        · exact .inl ⟨_, .str _⟩
        · exact .inl ⟨_, .str _⟩
        · exact .inl ⟨_, .int _⟩
        · exact .inl ⟨_, .non⟩
        · exact .inl ⟨_, .tup eq2⟩
    have xlen : (as.map V.ref ++ [V.ref t, V.ref q1, V.str (dayText y m d), V.str (dayRepr y m d), V.int y, V.non, V.ref q2]).length ≤ 17 := by
      rw [List.length_append, List.length_map]
      have := R13.few
      show as.length + 7 ≤ 17
      omega
    generalize as.map V.ref ++ [V.ref t, V.ref q1, V.str (dayText y m d), V.str (dayRepr y m d), V.int y, V.non, V.ref q2] = XS at *
    refine lc_list (K := K) (a := cl) (xs := XS) (fun i Hi => Same Hc Hi ∧ Hi L2 = some (.lst ((List.replicate i false).map V.bl))) ⟨same_upd nL2, upd_same⟩ (fun i Hi _ z => z.1.seq (SqL.of hcl)) ?_ ?_
    · rintro i x Hi hx ⟨sm, hL2⟩
      have ilt : i < XS.length := (List.getElem?_eq_some_iff.mp hx).1
      have Ri := R13.same sm
      obtain ⟨dxa, ea⟩ := Ri.da
      have fin : ∀ bb : Bool, bb = false → ∃ acc, Hi L2 = some (.lst acc) ∧ acc.length < sizeLine ∧ Same Hc (upd Hi L2 (.lst (acc ++ [.bl bb]))) ∧ (upd Hi L2 (.lst (acc ++ [.bl bb]))) L2 = some (.lst ((List.replicate (i + 1) false).map V.bl)) := fun bb eb => by
        subst eb
        refine ⟨_, hL2, small1000 (by rw [List.length_map, List.length_replicate]; omega), fun b z e => ?_, ?_⟩
        · rw [upd_ne (ne_of_none e nL2)]
          exact sm _ _ e
        · rw [upd_same, List.replicate_succ', List.map_append]
          rfl
      refine ⟨rfl, ?_⟩
      unfold tYes
      refine iteT ?_
      rcases key x (List.mem_of_getElem? hx) with ⟨tt, od⟩ | ⟨c, p, rfl, dc, np⟩
      · have od' := od.same sm
        refine ⟨_, rfl, _, rfl, a, dxa, _, rfl, ea, .inl ⟨tt, od'⟩, ⟨a, x, y, m, d, rfl, ⟨dxa, ea⟩, .inl ⟨tt, od', ⟨_, rfl, _, rfl, iteF ?_⟩⟩⟩⟩
        exact ⟨_, rfl, _, rfl, a, dxa, _, rfl, ea, .inl ⟨⟨tt, od'⟩, ⟨a, x, y, m, d, rfl, ⟨dxa, ea⟩, .inl ⟨tt, od', _, rfl, fin false rfl⟩⟩⟩⟩
      · obtain ⟨dxc, ec⟩ := DayAt.same dc sm
        refine ⟨_, rfl, _, rfl, a, dxa, _, rfl, ea, .inr ⟨c, dxc, _, rfl, ec⟩, eq_ask (p := (y, m, d)) (q := p) ⟨dxa, ea⟩ ⟨dxc, ec⟩ ⟨_, rfl, _, rfl, ?_⟩⟩
        refine iteF_of (same3_not (p := (y, m, d)) (q := p) np.symm) ?_
        exact ⟨_, rfl, _, rfl, a, dxa, _, rfl, ea, .inr ⟨c, dxc, _, rfl, ec, eq_ask (p := p) (q := (y, m, d)) ⟨dxc, ec⟩ ⟨dxa, ea⟩ ⟨_, rfl, fin _ (same3_not (p := p) (q := (y, m, d)) np)⟩⟩⟩
    rintro H14 ⟨s14, hL14⟩
    refine ⟨L2, List.replicate XS.length false, rfl, SqL.of hL14, ⟨_, rfl, iteF_of (any_rep _) ?_⟩⟩
    have R14 := R13.same s14
    -- in, not in
    refine ⟨_, rfl, _, rfl, _, rfl, (by show 1 ≤ sizeLine; decide), fun l1 nl1 => ?_⟩
    have s15 := same_upd nl1 (o := .lst [.ref b])
    have R15 := R14.same s15
    refine ⟨L, l1, as.map V.ref, [.ref b], rfl, rfl, R15.hL, upd_same, fitN ?_, fun l2 nl2 => ?_⟩
    · rw [List.length_map]
      have := R15.few
      show as.length + 1 ≤ 1000
      omega
    have s16 := same_upd nl2 (o := .lst (as.map V.ref ++ [.ref b]))
    have R16 := R15.same s16
    have hl2 := upd_same (H := upd H14 l1 (.lst [.ref b])) (a := l2) (o := .lst (as.map V.ref ++ [.ref b]))
    have b16 := b13.trans (Same.but (s14.trans (s15.trans s16)) h)
    generalize upd (upd H14 l1 (.lst [.ref b])) l2 (.lst (as.map V.ref ++ [.ref b])) = H16 at *
    obtain ⟨dxa, ea⟩ := R16.da
    obtain ⟨dxb, eb⟩ := R16.db
    refine ⟨a, l2, as ++ [b], fun c => decide (c = b), rfl, rfl, ⟨⟨dxa, _, ea⟩, by rw [List.map_append]; exact hl2, ?_, ?_, ?_⟩, fun H17 s17 => ⟨_, rfl, iteT_of ?_ ?_⟩⟩
    · intro c hc
      rcases List.mem_append.mp hc with hc | hc
      · obtain ⟨p, _, _, h3, _⟩ := R16.other c hc
        exact h3
      · rw [List.mem_singleton.mp hc]
        exact ab
    · intro c hc
      rcases List.mem_append.mp hc with hc | hc
      · obtain ⟨p, ⟨dx, e⟩, _⟩ := R16.other c hc
        exact ⟨dx, _, e⟩
      · rw [List.mem_singleton.mp hc]
        exact ⟨dxb, _, eb⟩
    · intro c hc H' Q' sm qq
      rcases List.mem_append.mp hc with hc | hc
      · obtain ⟨p, hd, np, _, cb⟩ := R16.other c hc
        refine eq_ask (p := p) (q := (y, m, d)) (DayAt.same hd sm) ⟨dxa, sm _ _ ea⟩ ⟨_, rfl, ?_⟩
        have z := qq H' (Same.refl H')
        rw [decide_eq_false cb] at z
        rw [same3_not np]
        exact z
      · have cb := List.mem_singleton.mp hc
        subst cb
        refine eq_ask (p := (y, m, d)) (q := (y, m, d)) ⟨dxb, sm _ _ eb⟩ ⟨dxa, sm _ _ ea⟩ ⟨_, rfl, ?_⟩
        have z := qq H' (Same.refl H')
        rw [decide_eq_true rfl] at z
        show Q' (same3 y m d y m d) H'
        rw [same3_self]
        exact z
    · simp
    have R17 := R16.same s17
    obtain ⟨dxa, ea⟩ := R17.da
    refine ⟨_, rfl, _, rfl, a, L, as, fun _ => false, rfl, rfl, ⟨⟨dxa, _, ea⟩, R17.hL, ?_, ?_, ?_⟩, fun H18 s18 => ?_⟩
    · intro c hc
      obtain ⟨p, _, _, h3, _⟩ := R17.other c hc
      exact h3
    · intro c hc
      obtain ⟨p, ⟨dx, e⟩, _⟩ := R17.other c hc
      exact ⟨dx, _, e⟩
    · intro c hc H' Q' sm qq
      obtain ⟨p, hd, np, _, cb⟩ := R17.other c hc
      refine eq_ask (p := p) (q := (y, m, d)) (DayAt.same hd sm) ⟨dxa, sm _ _ ea⟩ ⟨_, rfl, ?_⟩
      rw [same3_not np]
      exact qq H' (Same.refl H')
    · have z := q H18 (b16.trans (Same.but (s17.trans s18) h))
      have e : (if true = true then !as.any (fun _ => false) else as.any (fun _ => false)) = true := by simp
      show Q (V.bl (if true = true then !as.any (fun _ => false) else as.any (fun _ => false))) H18
      rw [e]
      exact z
end
end K1
namespace K1
open PySem PySem.Spec PyProof.Rows L2
section
variable {P : Program} {w : World} {K : PySem.W.Frag} {mg : Str → Option Value} {base : Heap} {C : Addr}

def spLaw (K : PySem.W.Frag) : Sp := fun vs H Q _ => ∃ (a : Addr) (ns : List Int), vs = [.ref a] ∧ SqL K H a (ns.map V.int) ∧ ns.length ≤ 63 ∧ ∀ H', Q (.bl true) H'
theorem ok_law {f fR : Addr} {fd fdR : FuncData} (D : Df K mg "law" ["_law_script"] sLaw f fd) (T : Txt K mg C) (cH : Ca P w K mg base 1 "_law_hand" ["_law_script", "_law_k"] (spHand K))
    (DR : Df K mg "_law_right" ["_law_hand_here"] sRight fR fdR) (GR : Gn P w K mg base 8 fR fdR ["_law_hand_here"] spRight) : Gn P w K mg base 9 f fd ["_law_script"] (spLaw K) := by
  refine gn_body D.fn scLaw (fun vs H Q E h => ?_) (fun cdv A outer s H vs Q E hg hr h => ?_)
  · obtain ⟨a, ns, rfl, _⟩ := h
    rfl
  · obtain ⟨a, ns, rfl, hS, hlen, q⟩ := h
    refine ⟨_, pss_one (ps_ret (pe_callB (cr_all (by rfl)) (by rfl) T.all (by decide +kernel) (pa_cons (pe_lc (own := [("_law_k", 1)]) (g := gName 1) (tt := tYes) (by rfl) scLaw.nd
      (pi_range1 (by rfl) T.range (pa_cons (pe_op op_add pe_int (pe_callB (call_min2 (by rfl)) (by rfl) T.min (by decide +kernel) (pa_cons pe_int (pa_cons (pe_callB call_len_seq (by rfl) T.len PySem.boot_len (pa_cons (pv 0) pa_nil)) pa_nil)))) pa_nil))
      (blkOk_by (own := [("_law_k", 1)]) (N := ["_law_script", "_law_k"]) (sc := defScope sLaw) (by decide +kernel))
      (fun _ _ _ _ _ => pg_name (i := 1) scLaw.nd rfl (.inl rfl)) (fun _ _ _ _ _ => pts_nil)
      (fun _ _ _ _ _ => pe_gn GR hg hr (by rfl) DR.mgf DR.fn.kp DR.bd (pa_cons (pe_ca cH hr (by decide) (by rfl) (pa_cons (pv 0) (pa_cons (pv 1) pa_nil))) pa_nil))) pa_nil))), ?_⟩
    refine ⟨_, rfl, a, _, rfl, .inl hS, 10, _, rfl, 2, _, rfl, rfl, _, rfl, ?_, ?_, fun L nL => ?_⟩
    · rw [List.length_map]
      split <;> omega
    · rw [List.length_map]
      split <;> omega
    · refine lc_range (lo := 0) (fun i Hi => Same H Hi ∧ Hi L = some (.lst ((List.replicate i true).map V.bl))) ⟨same_upd nL, upd_same⟩ ?_ ?_
      · rintro i Hi hi ⟨sm, hL⟩
        refine ⟨rfl, ?_⟩
        unfold tYes
        refine iteT ?_
        refine ⟨_, rfl, _, rfl, a, 0 + (i : Int), ns, rfl, by omega, sm.seq hS, fun p g m np g0 m0 m1 => ?_⟩
        refine ⟨p, rfl, ⟨g, m, 0, upd_same, g0, m0, m1, Int.le_refl _, Int.le_refl _⟩, fun H' bt => ?_⟩
        have nLp : L ≠ p := ne_of_none hL np
        refine ⟨_, bt L _ nLp (same_upd np _ _ hL), ?_, fun b o e => ?_, ?_⟩
        · rw [List.length_map, List.length_replicate]
          refine small1000 ?_
          have : i < (2 + (if ((ns.map V.int).length : Int) < 10 then ((ns.map V.int).length : Int) else 10)).toNat := hi
          rw [List.length_map] at this
          split at this <;> omega
        · rw [upd_ne (ne_of_none e nL)]
          have e2 := sm _ _ e
          exact bt _ _ (ne_of_none e2 np) (same_upd np _ _ e2)
        · rw [upd_same, List.replicate_succ', List.map_append]
          rfl
      · rintro He ⟨sm, hL⟩
        refine ⟨L, _, rfl, SqL.of hL, ?_⟩
        rw [show (List.replicate _ true).all id = true from List.all_eq_true.mpr fun b hb => (List.mem_replicate.mp hb).2]
        exact q _
end
end K1
namespace K1
open PySem PySem.Spec PyProof.Rows L2
theorem kit_self {K : PySem.W.Frag} {C : Addr} : PySem.W.kitOne K (.ref C) (.ref C) = some true := by
  unfold PySem.W.kitOne
  simp
theorem all_mk {l : PySem.W.OpenLaw} {w : World} {K : PySem.W.Frag} {h : Heap} {mg : Str → Option Value} {fa C fI tI aM fE fS fR f0 f1 f2 f3 f4 f5 f6 f7 f8 f9 f10 f11 f12 f13 f14 f15 : Addr}
    {odI anI odT odM odE anE odS anS odR anR od0 an0 od1 an1 od2 an2 od3 an3 od4 an4 od5 an5 od6 an6 od7 an7 od8 an8 od9 an9 od10 an10 od11 an11 od12 an12 od13 an13 od14 an14 od15 an15 : Option Addr}
    {slI slT slM slE slS slR sl0 sl1 sl2 sl3 sl4 sl5 sl6 sl7 sl8 sl9 sl10 sl11 sl12 sl13 sl14 sl15 : Array (Option Value)}
    {ocI kVI dcI pmI cdI ctI ocT ocE kVE dcE pmE cdE ctE ocS kVS dcS pmS cdS ctS ocR kVR dcR pmR cdR ctR oc0 kV0 dc0 pm0 cd0 ct0 oc1 kV1 dc1 pm1 cd1 ct1 oc2 kV2 dc2 pm2 cd2 ct2 oc3 kV3 dc3 pm3 cd3 ct3 oc4 kV4 dc4 pm4 cd4 ct4 oc5 kV5 dc5 pm5 cd5 ct5 oc6 kV6 dc6 pm6 cd6 ct6 oc7 kV7 dc7 pm7 cd7 ct7 oc8 kV8 dc8 pm8 cd8 ct8 oc9 kV9 dc9 pm9 cd9 ct9 oc10 kV10 dc10 pm10 cd10 ct10 oc11 kV11 dc11 pm11 cd11 ct11 oc12 kV12 dc12 pm12 cd12 ct12 oc13 kV13 dc13 pm13 cd13 ct13 oc14 kV14 dc14 pm14 cd14 ct14 oc15 kV15 dc15 pm15 cd15 ct15 : Value}
    {nT nM : Nat} {tY tO tF u0 u1 u2 u3 u4 u5 u6 u7 u8 u9 u10 u11 : Tok}
    (X : K.In h) (G : h.Ns mainGlobals mg) (hfa : mg "law" = some (.ref fa))
    (a0 : PySem.W.nsIn K mainGlobals "is_whole" = some (some (.ref f0)))
    (l0 : K.lookup f0 = some ⟨oc0, od0, .func (PySem.W.fnOf "is_whole" "is_whole" (defArgs sWhole) (defBody sWhole) (defScope sWhole) .none kV0 dc0 pm0 an0 cd0 ct0), sl0⟩)
    (c0 : PySem.W.codeIn K cd0 "is_whole" = true)
    (k0 : PySem.W.keepIn K (.ref f0) = true)
    (a1 : PySem.W.nsIn K mainGlobals "is_within" = some (some (.ref f1)))
    (l1 : K.lookup f1 = some ⟨oc1, od1, .func (PySem.W.fnOf "is_within" "is_within" (defArgs sWithin) (defBody sWithin) (defScope sWithin) .none kV1 dc1 pm1 an1 cd1 ct1), sl1⟩)
    (c1 : PySem.W.codeIn K cd1 "is_within" = true)
    (k1 : PySem.W.keepIn K (.ref f1) = true)
    (a2 : PySem.W.nsIn K mainGlobals "is_leap" = some (some (.ref f2)))
    (l2 : K.lookup f2 = some ⟨oc2, od2, .func (PySem.W.fnOf "is_leap" "is_leap" (defArgs sLeap) (defBody sLeap) (defScope sLeap) .none kV2 dc2 pm2 an2 cd2 ct2), sl2⟩)
    (c2 : PySem.W.codeIn K cd2 "is_leap" = true)
    (k2 : PySem.W.keepIn K (.ref f2) = true)
    (a3 : PySem.W.nsIn K mainGlobals "days_in" = some (some (.ref f3)))
    (l3 : K.lookup f3 = some ⟨oc3, od3, .func (PySem.W.fnOf "days_in" "days_in" (defArgs sDaysIn) (defBody sDaysIn) (defScope sDaysIn) .none kV3 dc3 pm3 an3 cd3 ct3), sl3⟩)
    (c3 : PySem.W.codeIn K cd3 "days_in" = true)
    (k3 : PySem.W.keepIn K (.ref f3) = true)
    (a4 : PySem.W.nsIn K mainGlobals "makes_day" = some (some (.ref f4)))
    (l4 : K.lookup f4 = some ⟨oc4, od4, .func (PySem.W.fnOf "makes_day" "makes_day" (defArgs sMakes) (defBody sMakes) (defScope sMakes) .none kV4 dc4 pm4 an4 cd4 ct4), sl4⟩)
    (c4 : PySem.W.codeIn K cd4 "makes_day" = true)
    (k4 : PySem.W.keepIn K (.ref f4) = true)
    (a5 : PySem.W.nsIn K mainGlobals "_law_hand" = some (some (.ref f5)))
    (l5 : K.lookup f5 = some ⟨oc5, od5, .func (PySem.W.fnOf "_law_hand" "_law_hand" (defArgs sHand) (defBody sHand) (defScope sHand) .none kV5 dc5 pm5 an5 cd5 ct5), sl5⟩)
    (c5 : PySem.W.codeIn K cd5 "_law_hand" = true)
    (k5 : PySem.W.keepIn K (.ref f5) = true)
    (a6 : PySem.W.nsIn K mainGlobals "_law_take" = some (some (.ref f6)))
    (l6 : K.lookup f6 = some ⟨oc6, od6, .func (PySem.W.fnOf "_law_take" "_law_take" (defArgs sTake) (defBody sTake) (defScope sTake) .none kV6 dc6 pm6 an6 cd6 ct6), sl6⟩)
    (c6 : PySem.W.codeIn K cd6 "_law_take" = true)
    (k6 : PySem.W.keepIn K (.ref f6) = true)
    (a7 : PySem.W.nsIn K mainGlobals "_law_pick" = some (some (.ref f7)))
    (l7 : K.lookup f7 = some ⟨oc7, od7, .func (PySem.W.fnOf "_law_pick" "_law_pick" (defArgs sPick) (defBody sPick) (defScope sPick) .none kV7 dc7 pm7 an7 cd7 ct7), sl7⟩)
    (c7 : PySem.W.codeIn K cd7 "_law_pick" = true)
    (k7 : PySem.W.keepIn K (.ref f7) = true)
    (a8 : PySem.W.nsIn K mainGlobals "_law_last" = some (some (.ref f8)))
    (l8 : K.lookup f8 = some ⟨oc8, od8, .func (PySem.W.fnOf "_law_last" "_law_last" (defArgs sLast) (defBody sLast) (defScope sLast) .none kV8 dc8 pm8 an8 cd8 ct8), sl8⟩)
    (c8 : PySem.W.codeIn K cd8 "_law_last" = true)
    (k8 : PySem.W.keepIn K (.ref f8) = true)
    (a9 : PySem.W.nsIn K mainGlobals "_law_parts" = some (some (.ref f9)))
    (l9 : K.lookup f9 = some ⟨oc9, od9, .func (PySem.W.fnOf "_law_parts" "_law_parts" (defArgs sParts) (defBody sParts) (defScope sParts) .none kV9 dc9 pm9 an9 cd9 ct9), sl9⟩)
    (c9 : PySem.W.codeIn K cd9 "_law_parts" = true)
    (k9 : PySem.W.keepIn K (.ref f9) = true)
    (a10 : PySem.W.nsIn K mainGlobals "_law_day_text" = some (some (.ref f10)))
    (l10 : K.lookup f10 = some ⟨oc10, od10, .func (PySem.W.fnOf "_law_day_text" "_law_day_text" (defArgs sText) (defBody sText) (defScope sText) .none kV10 dc10 pm10 an10 cd10 ct10), sl10⟩)
    (c10 : PySem.W.codeIn K cd10 "_law_day_text" = true)
    (k10 : PySem.W.keepIn K (.ref f10) = true)
    (a11 : PySem.W.nsIn K mainGlobals "_law_made" = some (some (.ref f11)))
    (l11 : K.lookup f11 = some ⟨oc11, od11, .func (PySem.W.fnOf "_law_made" "_law_made" (defArgs sMade) (defBody sMade) (defScope sMade) .none kV11 dc11 pm11 an11 cd11 ct11), sl11⟩)
    (c11 : PySem.W.codeIn K cd11 "_law_made" = true)
    (k11 : PySem.W.keepIn K (.ref f11) = true)
    (a12 : PySem.W.nsIn K mainGlobals "_law_others" = some (some (.ref f12)))
    (l12 : K.lookup f12 = some ⟨oc12, od12, .func (PySem.W.fnOf "_law_others" "_law_others" (defArgs sOthers) (defBody sOthers) (defScope sOthers) .none kV12 dc12 pm12 an12 cd12 ct12), sl12⟩)
    (c12 : PySem.W.codeIn K cd12 "_law_others" = true)
    (k12 : PySem.W.keepIn K (.ref f12) = true)
    (a13 : PySem.W.nsIn K mainGlobals "_law_good" = some (some (.ref f13)))
    (l13 : K.lookup f13 = some ⟨oc13, od13, .func (PySem.W.fnOf "_law_good" "_law_good" (defArgs sGood) (defBody sGood) (defScope sGood) .none kV13 dc13 pm13 an13 cd13 ct13), sl13⟩)
    (c13 : PySem.W.codeIn K cd13 "_law_good" = true)
    (k13 : PySem.W.keepIn K (.ref f13) = true)
    (a14 : PySem.W.nsIn K mainGlobals "_law_right" = some (some (.ref f14)))
    (l14 : K.lookup f14 = some ⟨oc14, od14, .func (PySem.W.fnOf "_law_right" "_law_right" (defArgs sRight) (defBody sRight) (defScope sRight) .none kV14 dc14 pm14 an14 cd14 ct14), sl14⟩)
    (c14 : PySem.W.codeIn K cd14 "_law_right" = true)
    (k14 : PySem.W.keepIn K (.ref f14) = true)
    (a15 : PySem.W.nsIn K mainGlobals "law" = some (some (.ref f15)))
    (l15 : K.lookup f15 = some ⟨oc15, od15, .func (PySem.W.fnOf "law" "law" (defArgs sLaw) (defBody sLaw) (defScope sLaw) .none kV15 dc15 pm15 an15 cd15 ct15), sl15⟩)
    (c15 : PySem.W.codeIn K cd15 "law" = true)
    (k15 : PySem.W.keepIn K (.ref f15) = true)
    (aC : PySem.W.nsIn K mainGlobals "Day" = some (some (.ref C)))
    (aI : PySem.W.findIn K (.ref C) "__init__" = some (some (.ref fI)))
    (iI : PySem.W.isFn K (.ref fI) = true)
    (lI : K.lookup fI = some ⟨ocI, odI, .func (PySem.W.fnOf "__init__" "Day.__init__" (defArgs sInit) (defBody sInit) (defScope sInit) (.ref tI) kVI dcI pmI anI cdI ctI), slI⟩)
    (cI : PySem.W.codeIn K cdI "Day.__init__" = true)
    (kI : PySem.W.keepIn K (.ref fI) = true)
    (lT : K.lookup tI = some ⟨ocT, odT, .seq #[Value.none, Value.none] nT, slT⟩)
    (aE : PySem.W.findIn K (.ref C) "__eq__" = some (some (.ref fE)))
    (iE : PySem.W.isFn K (.ref fE) = true)
    (lE : K.lookup fE = some ⟨ocE, odE, .func (PySem.W.fnOf "__eq__" "Day.__eq__" (defArgs sEqD) (defBody sEqD) (defScope sEqD) .none kVE dcE pmE anE cdE ctE), slE⟩)
    (cE : PySem.W.codeIn K cdE "Day.__eq__" = true)
    (kE : PySem.W.keepIn K (.ref fE) = true)
    (aS : PySem.W.findIn K (.ref C) "__str__" = some (some (.ref fS)))
    (iS : PySem.W.isFn K (.ref fS) = true)
    (lS : K.lookup fS = some ⟨ocS, odS, .func (PySem.W.fnOf "__str__" "Day.__str__" (defArgs sStrD) (defBody sStrD) (defScope sStrD) .none kVS dcS pmS anS cdS ctS), slS⟩)
    (cS : PySem.W.codeIn K cdS "Day.__str__" = true)
    (kS : PySem.W.keepIn K (.ref fS) = true)
    (aR : PySem.W.findIn K (.ref C) "__repr__" = some (some (.ref fR)))
    (iR : PySem.W.isFn K (.ref fR) = true)
    (lR : K.lookup fR = some ⟨ocR, odR, .func (PySem.W.fnOf "__repr__" "Day.__repr__" (defArgs sReprD) (defBody sReprD) (defScope sReprD) .none kVR dcR pmR anR cdR ctR), slR⟩)
    (cR : PySem.W.codeIn K cdR "Day.__repr__" = true)
    (kR : PySem.W.keepIn K (.ref fR) = true)
    (sint : PySem.W.subIn K (.type "int") (.ref C) = some false)
    (sstr : PySem.W.subIn K (.type "str") (.ref C) = some false)
    (sNoneType : PySem.W.subIn K (.type "NoneType") (.ref C) = some false)
    (stuple : PySem.W.subIn K (.type "tuple") (.ref C) = some false)
    (slist : PySem.W.subIn K (.type "list") (.ref C) = some false)
    (rint : PySem.W.subIn K (.ref C) (.type "int") = some false)
    (rstr : PySem.W.subIn K (.ref C) (.type "str") = some false)
    (rNoneType : PySem.W.subIn K (.ref C) (.type "NoneType") = some false)
    (rtuple : PySem.W.subIn K (.ref C) (.type "tuple") = some false)
    (rlist : PySem.W.subIn K (.ref C) (.type "list") = some false)
    (tyC : PySem.W.typeIn K (.ref C) = some (.type "type"))
    (nE : PySem.W.findIn K (.ref C) "__ne__" = some (some (.builtin "object.__ne__")))
    (pg : PySem.W.plainGet K C Str.empty = true)
    (hd : PySem.W.hasDictIn K C = true)
    (po : PySem.W.plainOver K C = true)
    (sa : PySem.W.findIn K (.ref C) "__setattr__" = some (some (.builtin "object.__setattr__")))
    (mk : PySem.W.makesIn K C = true)
    (kc : PySem.W.keepIn K (.ref C) = true)
    (nY : PySem.W.findIn K (.ref C) "year" = some none)
    (nMo : PySem.W.findIn K (.ref C) "month" = some none)
    (nD : PySem.W.findIn K (.ref C) "day" = some none)
    (ha : PySem.W.findIn K (.ref C) "__class__" = some (some (.builtin "object.__class__")))
    (hn : PySem.W.specialIn K (.builtin "object.__class__") "__get__" = some (some (.builtin "getset_descriptor.__get__")))
    (ht : PySem.W.takesIn K (.builtin "object.__class__") = some true)
    (hm : PySem.W.mroIn K C (.type "object") = some true)
    (gY : PySem.W.nsIn K mainGlobals "LAST_YEAR" = some (some (.int 9999 tY)))
    (gO : PySem.W.nsIn K mainGlobals "MONTHS" = some (some (.int 12 tO)))
    (gF : PySem.W.nsIn K mainGlobals "FEBRUARY" = some (some (.int 2 tF)))
    (gM : PySem.W.nsIn K mainGlobals "MONTH_DAYS" = some (some (.ref aM)))
    (lM : K.lookup aM = some ⟨.type "tuple", odM, .seq #[.int 31 u0, .int 28 u1, .int 31 u2, .int 30 u3, .int 31 u4, .int 30 u5, .int 31 u6, .int 31 u7, .int 30 u8, .int 31 u9, .int 30 u10, .int 31 u11] nM, slM⟩)
    (z_isinstance : PySem.W.nsIn K mainGlobals "isinstance" = some none)
    (z_int : PySem.W.nsIn K mainGlobals "int" = some none)
    (z_bool : PySem.W.nsIn K mainGlobals "bool" = some none)
    (z_len : PySem.W.nsIn K mainGlobals "len" = some none)
    (z_abs : PySem.W.nsIn K mainGlobals "abs" = some none)
    (z_min : PySem.W.nsIn K mainGlobals "min" = some none)
    (z_all : PySem.W.nsIn K mainGlobals "all" = some none)
    (z_list : PySem.W.nsIn K mainGlobals "list" = some none)
    (z_any : PySem.W.nsIn K mainGlobals "any" = some none)
    (z_str : PySem.W.nsIn K mainGlobals "str" = some none)
    (z_range : PySem.W.nsIn K mainGlobals "range" = some none)
    (z_repr : PySem.W.nsIn K mainGlobals "repr" = some none)
    : ∃ fd : FuncData, (∀ (s : Shared) (v : Value), BindsTo s fd ⟨[v], []⟩ [("_law_script", v)]) ∧
      ∀ base : Heap, K.In base → base.Ns mainGlobals mg → base.NoDigits → Gn l.prog w K mg base 9 fa fd ["_law_script"] (spLaw K) := by
  have e := hfa.symm.trans (PySem.W.mg_of X G a15)
  cases e
  have T : Txt K mg C := ⟨⟨pg, hd, po, sa⟩, nY, nMo, nD, PySem.W.mg_of X G aC, ⟨⟨pg, hd, po, sa⟩, ha, hn, ht, hm, kit_self⟩, ⟨_, PySem.W.mg_of X G gY⟩, ⟨_, PySem.W.mg_of X G gO⟩, ⟨_, PySem.W.mg_of X G gF⟩,
    ⟨aM, PySem.W.mg_of X G gM, fun H => .inr ⟨_, _, _, lM, rfl, rfl, (by show 12 ≤ sizeLine; decide), .cons ⟨_, rfl⟩ (.cons ⟨_, rfl⟩ (.cons ⟨_, rfl⟩ (.cons ⟨_, rfl⟩ (.cons ⟨_, rfl⟩ (.cons ⟨_, rfl⟩ (.cons ⟨_, rfl⟩ (.cons ⟨_, rfl⟩ (.cons ⟨_, rfl⟩ (.cons ⟨_, rfl⟩ (.cons ⟨_, rfl⟩ (.cons ⟨_, rfl⟩ (.nil))))))))))))⟩⟩,
    PySem.W.mg_none_of X G z_isinstance, PySem.W.mg_none_of X G z_int, PySem.W.mg_none_of X G z_bool, PySem.W.mg_none_of X G z_len, PySem.W.mg_none_of X G z_abs, PySem.W.mg_none_of X G z_min, PySem.W.mg_none_of X G z_all, PySem.W.mg_none_of X G z_list, PySem.W.mg_none_of X G z_any, PySem.W.mg_none_of X G z_str, PySem.W.mg_none_of X G z_range, PySem.W.mg_none_of X G z_repr⟩
  have F0 := fun_mk (st := sWhole) l0 c0 k0
  have D0 : Df K mg "is_whole" ["thing"] sWhole f0 _ := ⟨F0, PySem.W.mg_of X G a0, F0.binds (ps := ["thing"]) fun _ _ _ _ _ _ us hl => match us, hl with | [_], _ => rfl⟩
  have F1 := fun_mk (st := sWithin) l1 c1 k1
  have D1 : Df K mg "is_within" ["thing", "least", "most"] sWithin f1 _ := ⟨F1, PySem.W.mg_of X G a1, F1.binds (ps := ["thing", "least", "most"]) fun _ _ _ _ _ _ us hl => match us, hl with | [_, _, _], _ => rfl⟩
  have F2 := fun_mk (st := sLeap) l2 c2 k2
  have D2 : Df K mg "is_leap" ["year"] sLeap f2 _ := ⟨F2, PySem.W.mg_of X G a2, F2.binds (ps := ["year"]) fun _ _ _ _ _ _ us hl => match us, hl with | [_], _ => rfl⟩
  have F3 := fun_mk (st := sDaysIn) l3 c3 k3
  have D3 : Df K mg "days_in" ["year", "month"] sDaysIn f3 _ := ⟨F3, PySem.W.mg_of X G a3, F3.binds (ps := ["year", "month"]) fun _ _ _ _ _ _ us hl => match us, hl with | [_, _], _ => rfl⟩
  have F4 := fun_mk (st := sMakes) l4 c4 k4
  have D4 : Df K mg "makes_day" ["year", "month", "day"] sMakes f4 _ := ⟨F4, PySem.W.mg_of X G a4, F4.binds (ps := ["year", "month", "day"]) fun _ _ _ _ _ _ us hl => match us, hl with | [_, _, _], _ => rfl⟩
  have F5 := fun_mk (st := sHand) l5 c5 k5
  have D5 : Df K mg "_law_hand" ["_law_script", "_law_k"] sHand f5 _ := ⟨F5, PySem.W.mg_of X G a5, F5.binds (ps := ["_law_script", "_law_k"]) fun _ _ _ _ _ _ us hl => match us, hl with | [_, _], _ => rfl⟩
  have F6 := fun_mk (st := sTake) l6 c6 k6
  have D6 : Df K mg "_law_take" ["_law_hand_here", "_law_many"] sTake f6 _ := ⟨F6, PySem.W.mg_of X G a6, F6.binds (ps := ["_law_hand_here", "_law_many"]) fun _ _ _ _ _ _ us hl => match us, hl with | [_, _], _ => rfl⟩
  have F7 := fun_mk (st := sPick) l7 c7 k7
  have D7 : Df K mg "_law_pick" ["_law_hand_here", "_law_some"] sPick f7 _ := ⟨F7, PySem.W.mg_of X G a7, F7.binds (ps := ["_law_hand_here", "_law_some"]) fun _ _ _ _ _ _ us hl => match us, hl with | [_, _], _ => rfl⟩
  have F8 := fun_mk (st := sLast) l8 c8 k8
  have D8 : Df K mg "_law_last" ["_law_y", "_law_m"] sLast f8 _ := ⟨F8, PySem.W.mg_of X G a8, F8.binds (ps := ["_law_y", "_law_m"]) fun _ _ _ _ _ _ us hl => match us, hl with | [_, _], _ => rfl⟩
  have F9 := fun_mk (st := sParts) l9 c9 k9
  have D9 : Df K mg "_law_parts" ["_law_hand_here"] sParts f9 _ := ⟨F9, PySem.W.mg_of X G a9, F9.binds (ps := ["_law_hand_here"]) fun _ _ _ _ _ _ us hl => match us, hl with | [_], _ => rfl⟩
  have F10 := fun_mk (st := sText) l10 c10 k10
  have D10 : Df K mg "_law_day_text" ["_law_parts_here"] sText f10 _ := ⟨F10, PySem.W.mg_of X G a10, F10.binds (ps := ["_law_parts_here"]) fun _ _ _ _ _ _ us hl => match us, hl with | [_], _ => rfl⟩
  have F11 := fun_mk (st := sMade) l11 c11 k11
  have D11 : Df K mg "_law_made" ["_law_hand_here", "_law_parts_here"] sMade f11 _ := ⟨F11, PySem.W.mg_of X G a11, F11.binds (ps := ["_law_hand_here", "_law_parts_here"]) fun _ _ _ _ _ _ us hl => match us, hl with | [_, _], _ => rfl⟩
  have F12 := fun_mk (st := sOthers) l12 c12 k12
  have D12 : Df K mg "_law_others" ["_law_parts_here"] sOthers f12 _ := ⟨F12, PySem.W.mg_of X G a12, F12.binds (ps := ["_law_parts_here"]) fun _ _ _ _ _ _ us hl => match us, hl with | [_], _ => rfl⟩
  have F13 := fun_mk (st := sGood) l13 c13 k13
  have D13 : Df K mg "_law_good" ["_law_parts_here"] sGood f13 _ := ⟨F13, PySem.W.mg_of X G a13, F13.binds (ps := ["_law_parts_here"]) fun _ _ _ _ _ _ us hl => match us, hl with | [_], _ => rfl⟩
  have F14 := fun_mk (st := sRight) l14 c14 k14
  have D14 : Df K mg "_law_right" ["_law_hand_here"] sRight f14 _ := ⟨F14, PySem.W.mg_of X G a14, F14.binds (ps := ["_law_hand_here"]) fun _ _ _ _ _ _ us hl => match us, hl with | [_], _ => rfl⟩
  have F15 := fun_mk (st := sLaw) l15 c15 k15
  have D15 : Df K mg "law" ["_law_script"] sLaw fa _ := ⟨F15, PySem.W.mg_of X G a15, F15.binds (ps := ["_law_script"]) fun _ _ _ _ _ _ us hl => match us, hl with | [_], _ => rfl⟩
  have FE := fun_mk (st := sEqD) lE cE kE
  have BE := FE.binds (ps := ["self", "other"]) fun _ _ _ _ _ _ us hl => match us, hl with | [_, _], _ => rfl
  have FS := fun_mk (st := sStrD) lS cS kS
  have BS := FS.binds (ps := ["self"]) fun _ _ _ _ _ _ us hl => match us, hl with | [_], _ => rfl
  have FR := fun_mk (st := sReprD) lR cR kR
  have BR := FR.binds (ps := ["self"]) fun _ _ _ _ _ _ us hl => match us, hl with | [_], _ => rfl
  have FI : FunD K "__init__" "Day.__init__" (defArgs sInit) (defBody sInit) (defScope sInit) [.non, .non] [] fI _ :=
    ⟨⟨_, _, _, _, _, _, _, _, _, _, rfl, lI, cI, .inr ⟨by simp, tI, _, [Value.none, Value.none], _, rfl, lT, rfl, .cons rfl (.cons rfl .nil)⟩, .inl rfl⟩, kI⟩
  have W : OwnC K C fE := ⟨aE, iE, nE, hm, rint, rstr, rNoneType, rtuple, rlist⟩
  have Z : KitC K C := kitC_mk tyC hm sint sstr sNoneType stuple slist
  refine ⟨PySem.W.fnOf "law" "law" (defArgs sLaw) (defBody sLaw) (defScope sLaw) .none kV15 dc15 pm15 an15 cd15 ct15, fun s v => .of_eq rfl, fun base kb gb nd => ?g⟩
  case g =>
    have c0 := D0.ca (ok_whole (P := l.prog) (w := w) (base := base) D0 T)
    have c1 := D1.ca (ok_within D1 T c0)
    have c2 := D2.ca (ok_leap (P := l.prog) (w := w) (base := base) D2)
    have c3 := D3.ca (ok_daysIn D3 T c2)
    have c4 := D4.ca (ok_makes D4 T c1 c3)
    have mD := dm_mk FI ⟨mk, aI, iI, kc⟩ (ok_init FI T c4) T.mgC
    have O : Own l.prog w K mg base C fE fS fR _ _ _ := ⟨W, Z, ok_eqD FE T Z, BE, aS, iS, ok_strD FS T nd, BS, aR, iR, ok_reprD FR T, BR⟩
    have c9 := D5.ca (ok_hand (P := l.prog) (w := w) (base := base) D5 T)
    have c10 := D6.ca (ok_take (P := l.prog) (w := w) (base := base) D6)
    have c11 := D7.ca (ok_pick D7 T c10)
    have c12 := D8.ca (ok_last (P := l.prog) (w := w) (base := base) D8)
    have c13 := D9.ca (ok_parts D9 c10 c11 c12)
    have c14 := D10.ca (ok_text (P := l.prog) (w := w) (base := base) D10 T)
    have c15 := D11.ca (ok_made D11 c10 mD)
    have c16 := D13.ca (ok_good D13 c12)
    have c17 := D12.ca (ok_others D12 c16)
    exact ok_law D15 T c9 D14 (ok_right D14 T O c13 c15 c14 c17)
end K1
open PySem PySem.W PyProof.Rows
set_option maxRecDepth 100000 in
set_option maxHeartbeats 0 in
theorem PySem.Challenge.cw_takesworks_k01_days_told_holds : PySem.Challenge.rw_takesworks_k01_days_told.Holds := by
  w_on; o_law; k_head; (case hw => w_witness2)
  k_fill
  refine K1.walk_go (l := PySem.Challenge.rw_takesworks_k01_days_told) (n := 63) (k := 9) (x := "_law_script") (sp := K1.spLaw) rfl (by decide) rfl ⟨rfl, by decide, by decide⟩ (fun w h Y => PySem.W.kIn_of Y) ?F
    (fun _ _ a ns hl hS => ⟨a, ns, rfl, hS, hl, fun _ => rfl⟩)
  case F =>
    intro w mg fa h KX G hmg
    refine' K1.all_mk KX G hmg ?a0 ?l0 ?c0 ?k0 ?a1 ?l1 ?c1 ?k1 ?a2 ?l2 ?c2 ?k2 ?a3 ?l3 ?c3 ?k3 ?a4 ?l4 ?c4 ?k4 ?a5 ?l5 ?c5 ?k5 ?a6 ?l6 ?c6 ?k6 ?a7 ?l7 ?c7 ?k7 ?a8 ?l8 ?c8 ?k8 ?a9 ?l9 ?c9 ?k9 ?a10 ?l10 ?c10 ?k10 ?a11 ?l11 ?c11 ?k11 ?a12 ?l12 ?c12 ?k12 ?a13 ?l13 ?c13 ?k13 ?a14 ?l14 ?c14 ?k14 ?a15 ?l15 ?c15 ?k15 ?aC ?aI ?iI ?lI ?cI ?kI ?lT ?aE ?iE ?lE ?cE ?kE ?aS ?iS ?lS ?cS ?kS ?aR ?iR ?lR ?cR ?kR ?sint ?sstr ?sNoneType ?stuple ?slist ?rint ?rstr ?rNoneType ?rtuple ?rlist ?tyC ?nE ?pg ?hd ?po ?sa ?mk ?kc ?nY ?nMo ?nD ?ha ?hn ?ht ?hm ?gY ?gO ?gF ?gM ?lM ?z_isinstance ?z_int ?z_bool ?z_len ?z_abs ?z_min ?z_all ?z_list ?z_any ?z_str ?z_range ?z_repr
    (case a0 => k_is)
    (case l0 => k_is)
    (case c0 => k_is)
    (case k0 => k_is)
    (case a1 => k_is)
    (case l1 => k_is)
    (case c1 => k_is)
    (case k1 => k_is)
    (case a2 => k_is)
    (case l2 => k_is)
    (case c2 => k_is)
    (case k2 => k_is)
    (case a3 => k_is)
    (case l3 => k_is)
    (case c3 => k_is)
    (case k3 => k_is)
    (case a4 => k_is)
    (case l4 => k_is)
    (case c4 => k_is)
    (case k4 => k_is)
    (case a5 => k_is)
    (case l5 => k_is)
    (case c5 => k_is)
    (case k5 => k_is)
    (case a6 => k_is)
    (case l6 => k_is)
    (case c6 => k_is)
    (case k6 => k_is)
    (case a7 => k_is)
    (case l7 => k_is)
    (case c7 => k_is)
    (case k7 => k_is)
    (case a8 => k_is)
    (case l8 => k_is)
    (case c8 => k_is)
    (case k8 => k_is)
    (case a9 => k_is)
    (case l9 => k_is)
    (case c9 => k_is)
    (case k9 => k_is)
    (case a10 => k_is)
    (case l10 => k_is)
    (case c10 => k_is)
    (case k10 => k_is)
    (case a11 => k_is)
    (case l11 => k_is)
    (case c11 => k_is)
    (case k11 => k_is)
    (case a12 => k_is)
    (case l12 => k_is)
    (case c12 => k_is)
    (case k12 => k_is)
    (case a13 => k_is)
    (case l13 => k_is)
    (case c13 => k_is)
    (case k13 => k_is)
    (case a14 => k_is)
    (case l14 => k_is)
    (case c14 => k_is)
    (case k14 => k_is)
    (case a15 => k_is)
    (case l15 => k_is)
    (case c15 => k_is)
    (case k15 => k_is)
    (case aC => k_is)
    (case aI => k_is)
    (case iI => k_is)
    (case lI => k_is)
    (case cI => k_is)
    (case kI => k_is)
    (case lT => k_is)
    (case aE => k_is)
    (case iE => k_is)
    (case lE => k_is)
    (case cE => k_is)
    (case kE => k_is)
    (case aS => k_is)
    (case iS => k_is)
    (case lS => k_is)
    (case cS => k_is)
    (case kS => k_is)
    (case aR => k_is)
    (case iR => k_is)
    (case lR => k_is)
    (case cR => k_is)
    (case kR => k_is)
    (case sint => k_is)
    (case sstr => k_is)
    (case sNoneType => k_is)
    (case stuple => k_is)
    (case slist => k_is)
    (case rint => k_is)
    (case rstr => k_is)
    (case rNoneType => k_is)
    (case rtuple => k_is)
    (case rlist => k_is)
    (case tyC => k_is)
    (case nE => k_is)
    (case pg => k_is)
    (case hd => k_is)
    (case po => k_is)
    (case sa => k_is)
    (case mk => k_is)
    (case kc => k_is)
    (case nY => k_is)
    (case nMo => k_is)
    (case nD => k_is)
    (case ha => k_is)
    (case hn => k_is)
    (case ht => k_is)
    (case hm => k_is)
    (case gY => k_is)
    (case gO => k_is)
    (case gF => k_is)
    (case gM => k_is)
    (case lM => k_is)
    (case z_isinstance => k_is)
    (case z_int => k_is)
    (case z_bool => k_is)
    (case z_len => k_is)
    (case z_abs => k_is)
    (case z_min => k_is)
    (case z_all => k_is)
    (case z_list => k_is)
    (case z_any => k_is)
    (case z_str => k_is)
    (case z_range => k_is)
    (case z_repr => k_is)
