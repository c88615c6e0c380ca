import PyProof.Rows.All
import Wide.All
import OpenK.AllK
import Wide.FinOn
import HandS.ForMost
import HandS.Wide
import HandS.Flow
import HandS.IsInst
import HandS.Codes
import HandS.TupLe
import HandS.Zip
import HandS.Walk
import HandS.FStrTup
import HandS.RaiseMore
import PyProof.ReprRoads
import HandS.ForExc
import HandS.ExcInit
import HandS.ExcField
import HandS.ExcIs
import HandS.CallSlots
import HandS.Defaults
import HandS.MakeKw
import HandS.MakeKwOnly
import KE.KExcIs
import KE.KTryMore
import PyProof.StrLawsRepr
import HandS.Strs
import HandS.TupSets
import HandS.Dict
import HandS.TupAny
import HandS.Style
import PyProof.StrOps2
import PyProof.NeKinds
import PyProof.AutoSeq1
import KE.SortKeyHeap
import HandS.SortKw
import HandS.More
import HandS.Conv
import HandS.ExcValue
import HandS.Deep
import KE.KDictSum
import KE.SortData
import HandS.SortInts
import HandS.WideBits
import KE.GoesMore
import HandS.Iter
import PySem.Challenge.RW_takesworks_k21_rules_of_anything
set_option Elab.async false
set_option linter.all false
set_option maxRecDepth 100000
set_option maxHeartbeats 4000000
namespace K21
open PySem PySem.Spec PyProof.Rows L2
/-! ## defs that show things: promises where no showing is under way -/
structure Gn (P : Program) (w : World) (K : PySem.W.Frag) (mg : Str → Option Value) (base : Heap) (k : Nat) (f : Addr) (fd : FuncData) (ps : List Str) (sp : Sp) : Prop where
  many : ∀ vs H Q E, sp vs H Q E → vs.length = ps.length
  go : ∀ (A : Around) (outer : List Env) (s : Shared) (H : Hp) (args : Args) (us : List Value) (vs : List V) (Q : VK) (E : XK), A.guards = some [] → Room k A →
    Env0 P w K mg base A outer s H → BindsTo s fd args (ps.zip us) → Vals vs us → sp vs H Q E → codeAny (model P w) A (.call (.ref f) args) (CR CX0 outer P w H s Q E) s
section
variable {P : Program} {w : World} {K : PySem.W.Frag} {mg : Str → Option Value} {base : Heap}
theorem gn_body {x qual : Str} {st : Stmt} {f : Addr} {fd : FuncData} {N ps : List Str} {k : Nat} {sp : Sp} (F : Fun K x qual st f fd) (S : FnScope N ps (defScope st))
    (many : ∀ vs H Q E, sp vs H Q E → vs.length = ps.length)
    (body : ∀ (cdv : Value) (A : Around) (outer : List Env) (s : Shared) (H : Hp) (vs : List V) (Q : VK) (E : XK), A.guards = some [] →
      Room k (A.deeper (envOfC qual (defScope st) s.heap.objs.size f cdv)) → sp vs H Q E →
      ∃ t, PSs (cxOf CX0 P w K mg base N qual (defScope st) f cdv A outer s H E).nox (defBody st) t ∧ t { nx := fun _ H' => Q .non H', rt := Q } (start N vs) H) :
    Gn P w K mg base (k + 1) f fd ps sp := by
  obtain ⟨oc, od, kV, doc, pm, an, cdv, ct, osl, rfl, lk, hcd⟩ := F.ex
  refine ⟨many, fun A outer s H args us vs Q E hg room en bd rv hsp => ?_⟩
  have kin : K.In s.heap := en.mod.kin.keeps fun b o q => (en.bs b o q).1
  refine Att.call_fn kin (en.mod.nolimit.keeps fun b o q => (en.bs b o q).1) lk hcd room.depth bd ?_ (fun s1 inc => ?_) S.co S.gen S.kind
  · refine List.all_eq_true.mpr fun y hy => ?_
    rcases S.par y.1 (List.of_mem_zip (a := y.1) (b := y.2) hy).1 with q | q
    · rw [q]; rfl
    · rw [q]; rfl
  · obtain ⟨t, ht, hq⟩ := body cdv A outer s H vs Q E hg (room.deeper _) hsp
    have I := inv_start (CX := CX0) (E := E) S room.hd en (many _ _ _ _ hsp) rv inc
    refine wpAny_mono (ht.nox.run [] s1 _ H _ I hq) (fun fl s' hs => ?_) fun _ _ z => z
    cases fl with
    | ret u =>
      obtain ⟨v, _, H', J, r, q⟩ := hs
      exact ⟨v, H', J.os, J.bare, J.base, J.hok, r, q⟩
    | next =>
      obtain ⟨_, H', J, q⟩ := hs
      exact ⟨.non, H', J.os, J.bare, J.base, J.hok, rfl, q⟩
    | brk =>
      obtain ⟨_, _, _, z⟩ := hs
      exact False.elim z
    | cont =>
      obtain ⟨_, _, _, z⟩ := hs
      exact False.elim z
end
section
variable {X : Cx} {k : Nat} {f : Addr} {fd : FuncData} {ps : List Str} {sp : Sp} {x : Str} {p pos : Pos} {e : Expr} {es : List Expr} {t : TA}
theorem pe_gn (F : Gn X.prog X.w X.K X.mg X.base k f fd ps sp) (quiet : X.A.guards = some []) (room : Room k X.A) (gl : Gl X x) (mgf : X.mg x = some (.ref f))
    (kp : PySem.W.keepIn X.K (.ref f) = true) (bd : Binds X.K fd ps []) (ha : PA X (e :: es) t) (hdb : (x == ("__debug__" : Str)) = false := by decide)
    (he : starEach (e :: es) X.env = (false, eval e X.env) :: starEach es X.env := by rfl) (hpl : (backTo pos (starEach es X.env)).any (·.1) = false := by rfl) :
    PE X (.Call (.Name x p) (e :: es) [] pos) (tCall sp [] E0 t) := by
  refine ⟨fun pins s σ H Q I h => wpAny_Call_Name_kw (ld_glob I gl mgf ?_ hdb)⟩
  refine PySem.W.callWith_K (h₀ := X.base) I.ok.mod.kin kp ?_ he hpl
  refine thn (ha.run pos pins s σ H _ I h) fun us s1 z => ?_
  obtain ⟨vs, H1, I1, rv, q⟩ := z
  have q' : sp vs H1 Q E0 := by
    have z := q
    rw [List.append_nil] at z
    exact z
  have many : us.length = ps.length := rv.length.symm.trans (F.many _ _ _ _ q')
  have b1 := bd s1 us I1.kIn (by rw [List.append_nil]; exact many)
  rw [List.append_nil] at b1
  refine ⟨I1.kIn, wpAny_call (codeAny_mono (F.go X.A X.stack s1 H1 ⟨us, []⟩ us vs Q E0 quiet room I1.env0 b1 rv q') fun r s' hr => ?_)⟩
  cases r with
  | error z => exact False.elim hr
  | ok fl =>
    cases fl with
    | ret u => exact I1.after hr
    | next => exact False.elim hr
    | brk => exact False.elim hr
    | cont => exact False.elim hr
/-- repr of data at any depth -/
theorem cr_reprD (quiet : X.A.guards = some []) (room : Room k X.A) : CallR X (.builtin "repr") (fun xs H Q => ∃ (a : Addr) (d : PyData), xs = [.ref a] ∧ Dp X.K H (.ref a) d ∧ d.showable = true ∧ d.hasDict = false ∧
    d.depth ≤ 50 ∧ d.shown.length ≤ sizeLine ∧ Q (.str d.shown) H) := by
  intro pins s σ H xs us Q I r h
  obtain ⟨a, d, rfl, hd, hs, hn, hp, hz, q⟩ := h
  obtain ⟨u, rfl, rx⟩ := vals1 r
  obtain ⟨as, rd⟩ := Dp.reads I d _ u hd rx
  cases rx
  have hu := room.units
  exact repr_of_reads' rd hs (fun z => absurd (hn.symm.trans z) Bool.false_ne_true) quiet (by omega) (fun _ _ z => z) (fun h' u tk kept => ⟨.str d.shown, H, I.kept kept, ⟨u, rfl⟩, q⟩) hz
theorem cr_repr_bl : CallR X (.builtin "repr") (fun xs H Q => ∃ b : Bool, xs = [.bl b] ∧ Q (.str (if b then "True" else "False")) H) := by
  intro pins s σ H xs us Q I r h
  obtain ⟨b, rfl, q⟩ := h
  obtain ⟨u, rfl, rx⟩ := vals1 r
  cases rx
  exact PySem.P.repr_of_bool ⟨.str _, H, I.tok _, ⟨_, rfl⟩, q⟩
end
end K21
set_option Elab.async false
set_option linter.all false
set_option maxRecDepth 100000
set_option maxHeartbeats 4000000
namespace K21
open PySem PySem.Spec PyProof.Rows L2
theorem law_go {P : Program} {w : World} {K : PySem.W.Frag} {mg mb : Str → Option Value} {k : Nat} {fa a : Addr} {fd : FuncData} {x : Str} {sp : Sp} {z : Shared} {vs : List Value} {ns : List Int}
    (kin : K.In z.heap) (nsG : z.heap.Ns mainGlobals mg) (nsB : z.heap.Ns builtinsNs mb) (same : ∀ y : Str, y ≠ "__name__" → mb y = bootBuiltins y) (lim : z.heap.NoLimit) (dig : z.heap.NoDigits) (no : z.gens = #[])
    (at_ : z.heap.get? a = some { cls := .type "list", data := .seq vs.toArray }) (intsA : IntsAre vs ns) (many : ns.length ≤ sizeLine) (room : Room k callerA)
    (F : ∀ base : Heap, K.In base → base.Ns mainGlobals mg → base.NoDigits → Gn P w K mg base k fa fd [x] sp) (bind : ∀ (s : Shared) (u : Value), BindsTo s fd ⟨[u], []⟩ [(x, u)])
    (hsp : ∀ H : Hp, SqL K H a (ns.map V.int) → sp [.ref a] H (fun v _ => v = .bl true) fun _ _ _ => False) :
    codeAny (model P w) callerA (.call (.ref fa) ⟨[.ref a], []⟩) (fun r s' => r = .ok (.ret (.bool true)) ∧ OldK z.heap s'.heap ∧ s'.os = z.os ∧ AllBare s'.gens) z := by
  have rv : Vals (ns.map V.int) vs := vals_ints intsA
  have sz : (ns.map V.int).length ≤ sizeLine := by rw [List.length_map]; exact many
  -- what is tracked: the script, unless it is the module's own
  let u : HO := .frz { cls := .type "list", data := .seq vs.toArray } (.lst (ns.map V.int))
  let H : Hp := fun b => if b = a ∧ K.lookup a = none then some u else none
  have only : ∀ b o, H b = some o → b = a ∧ K.lookup a = none ∧ o = u := fun b o e => by
    by_cases c : b = a ∧ K.lookup a = none
    · have e2 : H b = some u := if_pos c
      rw [e2] at e
      exact ⟨c.1, c.2, (Option.some.inj e).symm⟩
    · have e2 : H b = none := if_neg c
      rw [e2] at e
      cases e
  have sq : SqL K H a (ns.map V.int) := by
    cases hk : K.lookup a with
    | none => exact .inl (.inr ⟨_, if_pos ⟨rfl, hk⟩⟩)
    | some o =>
      have e := kin a o hk
      rw [at_] at e
      cases e
      exact .inr ⟨_, vs.toArray, _, hk, rfl, rfl, rfl, by rw [List.size_toArray, ← rv.length]; exact sz, by simpa using rv⟩
  have hok : HOk P w H z.heap := fun b o e => by
    obtain ⟨rfl, _, rfl⟩ := only b o e
    exact ⟨at_, sz, vs, _, rv, at_⟩
  have dictFree : ∀ {b : Addr} {o : Obj} {es : Array DictEntry} {ep : Nat}, z.heap.get? b = some o → o.data = .dict es ep → H b = none := fun {b o es ep} e d => by
    cases q : H b with
    | none => rfl
    | some v =>
      obtain ⟨rfl, _, _⟩ := only b v q
      rw [at_] at e
      cases e
      cases (show Data.seq vs.toArray _ = Data.dict es ep from d)
  have nsK : ∀ {b : Addr} {m : Str → Option Value}, z.heap.Ns b m → (hidT z.heap H).Ns b m := fun {b m} q => by
    obtain ⟨o, es, ep, e, d, r⟩ := q
    exact ⟨o, es, ep, hidT_get e (dictFree e d), d, r⟩
  have kb : K.In (hidT z.heap H) := fun b o e => by
    refine hidT_get (kin b o e) ?_
    cases q : H b with
    | none => rfl
    | some v =>
      obtain ⟨rfl, n, _⟩ := only b v q
      rw [n] at e
      cases e
  have limB : (hidT z.heap H).NoLimit := by
    obtain ⟨mc, h1, h2⟩ := lim
    exact ⟨mc, nsK h1, h2⟩
  have digB : (hidT z.heap H).NoDigits := by
    obtain ⟨mc, h1, h2⟩ := dig
    exact ⟨mc, nsK h1, h2⟩
  have en : Env0 P w K mg (hidT z.heap H) callerA [] z H :=
    ⟨rfl, ⟨kb, nsK nsG, ⟨mb, nsK nsB, same⟩, limB⟩, fun _ _ e => of_hidT e, Nat.le_of_eq (hidT_size _ _), trivial, (fun b hb => absurd (show b ∈ ([] : List Addr) from hb) List.not_mem_nil), hok, .of_eq no⟩
  refine codeAny_mono ((F _ kb (nsK nsG) digB).go callerA [] z H ⟨[.ref a], []⟩ [.ref a] [.ref a] _ _ rfl room en (bind z (.ref a)) (.cons rfl .nil) (hsp H sq)) fun r s' h => ?_
  match r, h with
  | .error e, h => exact False.elim h
  | .ok .next, h => exact False.elim h
  | .ok .brk, h => exact False.elim h
  | .ok .cont, h => exact False.elim h
  | .ok (.ret y), h =>
    obtain ⟨v, H', os, bare, un, hok', r', q⟩ := h
    obtain rfl : v = .bl true := q
    obtain rfl : y = Value.bool true := r'
    refine ⟨rfl, OldK.of_keep fun b o e => ?_, os, bare⟩
    cases q : H b with
    | none => exact un.keep b o e q (fun y => by cases y) (fun y => by cases y)
    | some v =>
      obtain ⟨rfl, _, rfl⟩ := only b v q
      have e2 := (hok' _ _ (un.frzs _ _ _ q)).1
      rw [at_] at e
      cases e
      exact e2
theorem walk_go {l : PySem.W.OpenLaw} {n k : Nat} {q : Program} {loose : List Str} {XP : (Str → Option Value) → Heap → Prop} {YP : World → Heap → Prop} {d : DefRec} {K : Params → PySem.W.Frag} {sp : PySem.W.Frag → Sp} {x : Str}
    (most : l.most = some n) (small : n ≤ sizeLine) (nodef : d.params.defaults = []) (room : Room k callerA) (hY : ∀ (w : World) (h : Heap), YP w h → (K w.params).In h)
    (F : ∀ (w : World) (mg : Str → Option Value) (fa : Addr) (h : Heap), (K w.params).In h → h.Ns mainGlobals mg → mg d.name = some (.ref fa) →
      ∃ fd : FuncData, (∀ (s : Shared) (u : Value), BindsTo s fd ⟨[u], []⟩ [(x, u)]) ∧ ∀ base : Heap, (K w.params).In base → base.Ns mainGlobals mg → base.NoDigits →
        Gn l.prog w (K w.params) mg base k fa fd [x] (sp (K w.params)))
    (hsp : ∀ (K : PySem.W.Frag) (H : Hp) (a : Addr) (ns : List Int), ns.length ≤ n → SqL K H a (ns.map V.int) → sp K [.ref a] H (fun v _ => v = .bl true) fun _ _ _ => False) :
    PySem.W.WalkO q loose XP YP l.row.toRowW d [] (fun f vs => PySem.call f vs) := by
  refine Att.attach_call most nodef fun w s₀ s₁ mg mb fa o pm cd doc a vs ns G Y _ _ _ hmg hobj hints hlen hg => ?_
  have kin := hY w _ Y
  obtain ⟨fd, hb, hF⟩ := F w mg fa _ kin G.T.g hmg
  exact law_go kin G.T.g G.T.b G.T.builtins G.T.nolimit G.T.nodigits hg hobj hints (Nat.le_trans hlen small) room hF hb fun H hS => hsp _ H a ns hlen hS
end K21
set_option Elab.async false
set_option linter.all false
set_option maxRecDepth 100000
set_option maxHeartbeats 4000000
set_option pp.maxSteps 400
set_option pp.deepTerms false
/-! A caught exception that is kept: tracked as an object of its own, with its class and its dict. -/
namespace Xk
open PySem PySem.Spec PyProof.Rows L2
/-- at a: an exception of the class cls, its dict at d (if it has one) -/
def ExK (cls : Value) (d : Option Addr) (a : Addr) : HO := .ext fun h => ∃ oe : Obj, h.get? a = some oe ∧ Zc cls d oe ∧ ∃ vs, oe.data = .fields vs
theorem exK_ok {P : Program} {w : World} {H : Hp} {h : Heap} {a : Addr} {cls : Value} {d : Option Addr} {oe : Obj} {vs : Array Value}
    (e : h.get? a = some oe) (z : Zc cls d oe) (hd : oe.data = .fields vs) : ObjOk P w H h a (ExK cls d a) :=
  ⟨⟨oe, e, z, vs, hd⟩, ⟨oe, e⟩, fun _ _ y k => by
    obtain ⟨o, q, r⟩ := y
    exact ⟨o, k o q, r⟩⟩
theorem exK_at {P : Program} {w : World} {H : Hp} {h : Heap} {a : Addr} {cls : Value} {d : Option Addr} (hok : HOk P w H h) (e : H a = some (ExK cls d a)) :
    ∃ oe : Obj, h.get? a = some oe ∧ Zc cls d oe ∧ ∃ vs, oe.data = .fields vs := by
  have z : ObjOk P w H h a (.ext fun h => ∃ oe : Obj, h.get? a = some oe ∧ Zc cls d oe ∧ ∃ vs, oe.data = .fields vs) := hok a _ e
  exact z.1
section
variable {X : Cx} {pins : List (Addr × Obj)} {σ : L2.St} {H : Hp} {s : Shared}
/-- an object that came during the call, untracked as yet, is tracked from here on -/
theorem track {a : Addr} {o : HO} (I : Inv X pins σ H s) (h0 : X.s_0.heap.get? a = none) (na : H a = none) (nL : a ≠ X.env.locals)
    (nC : ∀ x c, X.env.cells.lookup x = some c → c ≠ a) (nP : ∀ p ∈ X.pn ++ pins, p.1 ≠ a) (new : ObjOk X.prog X.w (upd H a o) s.heap a o) : Inv X pins σ (upd H a o) s := by
  have n0 : ∀ {b : Addr} {u : Obj}, X.s_0.heap.get? b = some u → b ≠ a := fun {b u} e z => by
    rw [z, h0] at e
    cases e
  refine ⟨I.ok, I.os, I.bare, ⟨I.base.keep, I.base.slot, fun b u e n hx => ?_, I.base.there, fun b xs e => ?_, fun b u v e => ?_, fun b ps e => ?_⟩, I.loc, I.cell, ?_, fun x c e => ?_, fun p hp => ?_, fun b u e => ?_, I.len⟩
  · rw [upd_ne (n0 e)]
    exact I.base.free b u e n hx
  · have q := I.base.tups b xs e
    rw [upd_ne (ne_of_none q na)]
    exact q
  · have q := I.base.frzs b u v e
    rw [upd_ne (ne_of_none q na)]
    exact q
  · obtain ⟨m, q⟩ := I.base.tbls b ps e
    exact ⟨m, by rw [upd_ne (ne_of_none q na)]; exact q⟩
  · rw [upd_ne (Ne.symm nL)]
    exact I.free
  · rw [upd_ne (nC x c e)]
    exact I.freeC x c e
  · obtain ⟨e1, e2, e3⟩ := I.pin p hp
    exact ⟨e1, by rw [upd_ne (nP p hp)]; exact e2, e3⟩
  · by_cases hb : b = a
    · subst hb
      rw [upd_same] at e
      cases e
      exact new
    · rw [upd_ne hb] at e
      refine (I.hok b u e).stay (fun _ _ _ q => q) (fun c q => ?_) fun c xs q => ?_
      · rw [upd_ne (ne_of_none q na)]
        exact q
      · rw [upd_ne (ne_of_none q na)]
        exact q
end
theorem flying_kept {B h h' : Heap} {l : List Env} {a : Addr} {Z : Obj → Prop} (f : HandSPX.FlyingZ B l a Z h) (k : ∀ b o, h.get? b = some o → h'.get? b = some o) : HandSPX.FlyingZ B l a Z h' := by
  obtain ⟨f1, f2, f3, oe, vs, T, oT, ts, t1, t2, t3, t4, t5, t6, t7, t8, t9⟩ := f
  exact ⟨fun b o e => k b o (f1 b o e), f2, f3.of_keeps fun b o e _ => ⟨o, k b o e, rfl⟩, oe, vs, T, oT, ts, k _ _ t1, t2, t3, t4, t5, t6, k _ _ t7, t8, t9⟩
/-- what the clause 'except (A, B, C) as n' wishes of an exception of the body: slot i is n's; the exception is tracked -/
def wKeep (K : PySem.W.Frag) (cs : List Value) (i : Nat) (ts : Addr → TS) (Wout : WX) (D : Ends) : WX := fun cls d σ H =>
  ∃ b, PySem.W.exmAny K cls cs = some b ∧
    (b = true → ∀ a, H a = none → ts a { nx := fun σ' H' => D.nx (σ'.set i none) H', rt := D.rt, bk := fun σ' H' => D.bk (σ'.set i none) H', ct := fun σ' H' => D.ct (σ'.set i none) H' } (σ.set i (some (.ref a))) (upd H a (ExK cls d a))) ∧
    (b = false → Wout cls d σ H)
/-- a module's own class by its name -/
structure Nm (X : Cx) (x : Str) (C : Addr) : Prop where
  gl : Gl X x
  db : (x == ("__debug__" : Str)) = false
  mg : X.mg x = some (.ref C)
section
variable {X : Cx} {x1 x2 x3 n : Str} {C1 C2 C3 : Addr} {i : Nat} {body suite : List Stmt} {b₀ : Stmt} {p1 p2 p3 tp pos pos' : Pos} {tb : WX → TS} {ts : Addr → TS} {Wout : WX} {cx}
theorem ps_try_keep (hs : X.stack = X.env :: X.outer) (hf : X.env.frame = some X.env.locals) (hex : X.ex = []) (hN : X.N.Nodup) (hi : X.N[i]? = some n) (hln : X.env.kindOf n = some .local)
    (n1 : Nm X x1 C1) (n2 : Nm X x2 C2) (n3 : Nm X x3 C3) (tk : Takes X Wout)
    (hb : ∀ (W : WX) (pn : List (Addr × Obj)) (xe : Value → Shared → Prop), Takes (X.tr pn xe) W → PassesOwn (model X.prog X.w) X.A X.env xe → PSs (X.tr pn xe) body (tb W))
    (hsu : ∀ (a : Addr) (pn : List (Addr × Obj)), PSs (X.suite a pn) (b₀ :: suite) (ts a)) :
    PS X (.Try body [.ExceptHandler (some (.Tuple [.Name x1 p1, .Name x2 p2, .Name x3 p3] cx tp)) (some n) (b₀ :: suite) pos'] [] [] pos) (fun D σ H => tb (wKeep X.K [.ref C1, .ref C2, .ref C3] i ts Wout D) D σ H) := by
  refine ⟨fun pins s σ H D I h => ?_⟩
  have ok := I.ok
  have frs2 : X.A.frames = some (X.env :: X.outer) := by rw [ok.frames, hs]
  refine wpAny_Try_except ?_
  refine wpAny_mono ((hb (wKeep X.K [.ref C1, .ref C2, .ref C3] i ts Wout D) (X.pn ++ pins)
    (fun e s₁ => wpAny (model X.prog X.w) X.A (noteFrame e X.env) (fun _ s₂ => wpAny (model X.prog X.w) X.A (setFlight e none) (fun _ s₃ => wpAny (model X.prog X.w) X.A
      (handleBy e X.env [.ExceptHandler (some (.Tuple [.Name x1 p1, .Name x2 p2, .Name x3 p3] cx tp)) (some n) (b₀ :: suite) pos']) (SP X pins D) X.xe s₃) X.xe s₂) X.xe s₁)
    (fun u s' air => ?_) PassesOwn.looking).run [] s σ H D (I.toTry _) h) (fun f s1 hsp => ?_) (fun e s1 he => he)
  · obtain ⟨a, B, sI, pins', σ', H', cls, d, rfl, J', nb, up, sky, na, os, ag, b, hb1, hyes, hno⟩ := air
    have J : Inv X pins σ' H' sI := J'.ofTry ok
    have sky2 : Sky B (X.env :: X.outer) a (Zc cls d) X.env.locals s'.heap := by
      rw [← hs]
      exact sky
    refine Sky.land Zc.steady frs2 hf sky2 fun h3 fl3 up3 => ?_
    obtain ⟨oe3, vs3, he3, hz3, hd3⟩ := fl3.there
    have nfr : a ∉ frs (X.env :: X.outer) := fun hm => by
      obtain ⟨_, o', e', hnf⟩ := fl3.2.2.1.mem hm
      rw [he3] at e'
      cases e'
      exact hnf _ hd3
    have nL : a ≠ X.env.locals := fun z => nfr (List.mem_filterMap.mpr ⟨X.env, List.mem_cons_self, by rw [hf, z]⟩)
    have nF : a ∉ X.fs := fun hm => by
      obtain ⟨e, he, q⟩ := List.mem_filterMap.mp hm
      exact nfr (List.mem_filterMap.mpr ⟨e, List.mem_cons_of_mem _ he, q⟩)
    -- it was not there when the call began
    have aI : sI.heap.get? a = none := by
      cases e : sI.heap.get? a with
      | none => rfl
      | some o =>
        have z := nb a o e (by rw [hs]; exact nfr)
        rw [fl3.2.1] at z
        cases z
    have a0 : X.s_0.heap.get? a = none := by
      cases e : X.s_0.heap.get? a with
      | none => rfl
      | some o =>
        obtain ⟨o', z⟩ := J.base.there a o e (by rw [hex]; exact fun z => nomatch z)
        rw [aI] at z
        cases z
    have nP : ∀ p ∈ X.pn ++ pins, p.1 ≠ a := fun p hp z => by
      have q := (J.pin p hp).1
      rw [z, aI] at q
      cases q
    have trk : ∀ {h4 : Heap} {s4 : Shared}, s4.heap = h4 → HandSPX.FlyingZ B (X.env :: X.outer) a (Zc cls d) h4 → Inv X pins σ' H' s4 → Inv X pins σ' (upd H' a (ExK cls d a)) s4 := fun {h4 s4} e4 fl4 J4 => by
      subst e4
      obtain ⟨oe4, vs4, he4, hz4, hd4⟩ := fl4.there
      refine track J4 a0 na nL (fun x c e z => ?_) nP (exK_ok he4 hz4 hd4)
      obtain ⟨v, o, eo, ed⟩ := J4.cell x c e
      rw [z, he4] at eo
      cases eo
      rw [hd4] at ed
      cases ed
    have J3 : Inv X pins σ' H' { s' with heap := h3 } := J.landed nb fl3.1 (up.trans up3) os ag
    have S3 : Inv (X.suite a (X.pn ++ pins)) [] σ' H' { s' with heap := h3 } :=
      ⟨J3.ok.suite _ _, J3.os, J3.bare, J3.base, J3.loc, J3.cell, J3.free, J3.freeC, fun p hp => J3.pin p (by rw [List.append_nil] at hp; exact hp), J3.hok, J3.len⟩
    refine wpAny_handleBy_cons (codeAny_handlers_test ?_) (by intro q; cases q)
    have own : ∀ {x : Str} {C : Addr} {p : Pos} {Q : Value → Shared → Prop} {E : Value → Shared → Prop}, Nm X x C → Q (.ref C) { s' with heap := h3 } →
        wpAny (model X.prog X.w) (X.A.mark (some (.ref a))) (eval (.Name x p) X.env) Q E { s' with heap := h3 } := fun {x C p Q E} z q => ld_glob (X := X.suite a (X.pn ++ pins)) S3 z.gl z.mg q z.db
    have tup : ∀ {Q : Value → Shared → Prop} {E : Value → Shared → Prop}, Q (.ref h3.objs.size) { s' with heap := h3.push { cls := .type "tuple", data := .seq [Value.ref C1, .ref C2, .ref C3].toArray } } →
        wpAny (model X.prog X.w) (X.A.mark (some (.ref a))) (eval (.Tuple [.Name x1 p1, .Name x2 p2, .Name x3 p3] cx tp) X.env) Q E { s' with heap := h3 } := fun {Q E} q => by
      refine wpAny_Tuple_spliced ?_
      show wpAny _ _ (spliced ((false, eval (.Name x1 p1) X.env) :: (false, eval (.Name x2 p2) X.env) :: (false, eval (.Name x3 p3) X.env) :: [])) _ _ _
      exact Calls.spliced_cons (own n1 (Calls.spliced_cons (own n2 (Calls.spliced_cons (own n3 (Calls.spliced_nil ⟨by show 3 ≤ sizeLine; decide, q⟩))))))
    refine tup ?_
    have k4 : ∀ b o, h3.get? b = some o → (h3.push { cls := .type "tuple", data := .seq [Value.ref C1, .ref C2, .ref C3].toArray }).get? b = some o := fun b o e => Heap.get?_push_of_some _ e
    have t4 := Heap.get?_push_size h3 (o := { cls := .type "tuple", data := .seq [Value.ref C1, .ref C2, .ref C3].toArray }) rfl
    generalize h3.push { cls := .type "tuple", data := .seq [Value.ref C1, .ref C2, .ref C3].toArray } = h4 at k4 t4 ⊢
    have fl4 := flying_kept fl3 k4
    have J4 : Inv X pins σ' H' { s' with heap := h4 } := J3.kept k4
    have LT : PySem.W.Looks (model X.prog X.w) h4 (typeOf (.ref a)) cls := fun A Q E s k q => wpAny_typeOf_ref (k _ _ (k4 _ _ he3)) (by rw [hz3.1]; exact q)
    refine (PySem.W.exm_tup3 (M := model X.prog X.w) J4.kIn LT t4 hb1).here ?_
    cases b with
    | true =>
      refine codeAny_handlers_suite_as ?_
      refine HandSPX.lands_againZ fl4 fun h5 fl5 up5 => ?_
      have J5 : Inv X pins σ' H' { s' with heap := h5 } := J.landed nb fl5.1 ((up.trans up3).trans ((Heap.UpToSlots.of_keeps k4).trans up5)) os ag
      have T5 := trk rfl fl5 J5
      have S5 : Inv (X.suite a (X.pn ++ pins)) [] σ' (upd H' a (ExK cls d a)) { s' with heap := h5 } :=
        ⟨T5.ok.suite _ _, T5.os, T5.bare, T5.base, T5.loc, T5.cell, T5.free, T5.freeC, fun p hp => T5.pin p (by rw [List.append_nil] at hp; exact hp), T5.hok, T5.len⟩
      refine store_ok (X := X.suite a (X.pn ++ pins)) (v := .ref a) S5 hN hi (.inl hln) rfl (fun s6 S6 => ?_) (.inr hln)
      refine wpAny_mono ((hsu a (X.pn ++ pins)).run [] s6 _ _ _ S6 (hyes rfl a na)) (fun f s7 hsp => ?_) (fun _ _ z => False.elim z)
      have back : ∀ {σ7 : L2.St} {H7 : Hp}, Inv (X.suite a (X.pn ++ pins)) [] σ7 H7 s7 → Inv X pins σ7 H7 s7 := fun {σ7 H7} S7 =>
        ⟨ok, S7.os, S7.bare, S7.base, S7.loc, S7.cell, S7.free, S7.freeC, fun p hp => S7.pin p (by rw [List.append_nil]; exact hp), S7.hok, S7.len⟩
      cases f with
      | next =>
        obtain ⟨σ7, H7, S7, q7⟩ := hsp
        exact gone_ok (back S7) hN hi hln fun s8 J8 => ⟨_, _, J8, q7⟩
      | brk =>
        obtain ⟨σ7, H7, S7, q7⟩ := hsp
        exact gone_ok (back S7) hN hi hln fun s8 J8 => ⟨_, _, J8, q7⟩
      | cont =>
        obtain ⟨σ7, H7, S7, q7⟩ := hsp
        exact gone_ok (back S7) hN hi hln fun s8 J8 => ⟨_, _, J8, q7⟩
      | ret u =>
        obtain ⟨v7, σ7, H7, S7, r7, q7⟩ := hsp
        exact gone_ok (back S7) hN hi hln fun s8 J8 => ⟨_, _, _, J8, r7, q7⟩
    | false =>
      refine wpAny_handleBy_nil ?_
      obtain ⟨k1, k2, k3, oe, vs, T, oT, ts', he, hz, hd, h1, hr⟩ := id fl4
      unfold PySem.passOn
      refine wpAny_bind (wpAny_field he hd h1 ?_)
      rw [if_neg (by simp : ¬ ((Value.ref T == Value.none) = true))]
      have fin : wpAny (model X.prog X.w) X.A (setFlight (.ref a) X.env.frame) (fun _ s5 => wpAny (model X.prog X.w) X.A (throw (.ref a) : Sem Flow) (SP X pins D) X.xe s5) X.xe { s' with heap := h4 } := by
        rw [hf]
        refine HandSPX.setFlight_upZ fl4 fun h5 hh5 up5 => wpAny_throw (tk _ _ ?_)
        exact ⟨a, B, sI, pins, σ', H', cls, d, rfl, J, nb, (up.trans up3).trans ((Heap.UpToSlots.of_keeps k4).trans up5), .inr (.inr (by rw [hs]; exact hh5)), na, os, ag, hno rfl⟩
      first
        | exact wpAny_bind (wpAny_pure (wpAny_bind fin))
        | exact wpAny_bind fin
  · cases f with
    | next =>
      obtain ⟨σ', H', J', q⟩ := hsp
      exact wpAny_execs_nil ⟨σ', H', J'.ofTry ok, q⟩
    | brk =>
      obtain ⟨σ', H', J', q⟩ := hsp
      exact ⟨σ', H', J'.ofTry ok, q⟩
    | cont =>
      obtain ⟨σ', H', J', q⟩ := hsp
      exact ⟨σ', H', J'.ofTry ok, q⟩
    | ret u =>
      obtain ⟨v, σ', H', J', r, q⟩ := hsp
      exact ⟨v, σ', H', J'.ofTry ok, r, q⟩
end
end Xk
set_option Elab.async false
set_option linter.all false
set_option maxRecDepth 100000
set_option maxHeartbeats 4000000
set_option pp.maxSteps 400
set_option pp.deepTerms false
namespace Xk
open PySem PySem.Spec PyProof.Rows L2
/-- what an own exception class says, so that its kept instances are read and asked -/
structure XcC (K : PySem.W.Frag) (C : Addr) : Prop where
  cl : (PySem.W.clsIn K C).isSome = true
  ga : PySem.W.findIn K (.ref C) "__getattribute__" = some (some (.builtin "BaseException.__getattribute__"))
  gg : PySem.W.findIn K (.ref C) "__getattr__" = some none
  sb : PySem.W.subIn K (.ref C) (.type "BaseException") = some true
  hd : PySem.W.hasDictIn K C = true
  ha : PySem.W.findIn K (.ref C) "__class__" = some (some (.builtin "object.__class__"))
  hn : PySem.W.specialIn K (.builtin "object.__class__") "__get__" = some (some (.builtin "getset_descriptor.__get__"))
  ht : PySem.W.takesIn K (.builtin "object.__class__") = some true
  hm : PySem.W.mroIn K C (.type "object") = some true
/-- a kept exception of the class at C with the fields fs -/
def Kept (H : Hp) (a C : Addr) (fs : List (Str × V)) : Prop := ∃ d, H a = some (ExK (.ref C) (some d) a) ∧ H d = some (.xd fs)
theorem Kept.same {H H' : Hp} {a C : Addr} {fs : List (Str × V)} (k : Kept H a C fs) (s : L2.Same H H') : Kept H' a C fs := by
  obtain ⟨d, e1, e2⟩ := k
  exact ⟨d, s _ _ e1, s _ _ e2⟩
section
variable {X : Cx} {pins : List (Addr × Obj)} {σ : L2.St} {H : Hp} {s : Shared}
theorem Kept.inst {a C : Addr} {fs : List (Str × V)} (I : Inv X pins σ H s) (k : Kept H a C fs) :
    ∃ (oe od : Obj) (mA : Str → Option Value), PySem.W.InstAt s.heap a oe C (some od) ∧ (∀ n, PySem.W.lookIn n od = some (mA n)) ∧ ∀ f, RelO (fs.lookup f) (mA f) := by
  obtain ⟨d, e1, e2⟩ := k
  obtain ⟨oe, he, hz, vs, hv⟩ := exK_at I.hok e1
  have hx : ObjOk X.prog X.w H s.heap d (.xd fs) := I.hok d _ e2
  obtain ⟨mA, hns, hr⟩ := hx
  obtain ⟨od, ho, hl⟩ := lookIn_ns hns
  refine ⟨oe, od, mA, ⟨he, hz.1, by unfold PySem.W.notCls; rw [hv] <;> rfl, by rw [hz.2]; exact ho⟩, hl, hr⟩
end
/-- e.f of a kept exception -/
def tKf (C : Addr) (f : Str) (te : TE) : TE := fun σ H Q => te σ H fun x H1 => ∃ (a : Addr) (fs : List (Str × V)) (v : V), x = .ref a ∧ Kept H1 a C fs ∧ fs.lookup f = some v ∧ Q v H1
theorem pe_kf {X : Cx} {C : Addr} {e : Expr} {te : TE} {pos : Pos} {n : Str} (T : XcC X.K C) (hno : PySem.W.findIn X.K (.ref C) n = some none) (he : PE X e te)
    (hb : attributeBase e n X.env (eval e X.env) = eval e X.env := by rfl) : PE X (.Attribute e n pos) (tKf C n te) := by
  refine ⟨fun pins s σ H Q I h => attr_of hb (thn (he.run pins s σ H _ I h) fun u s1 z => ?_)⟩
  obtain ⟨x, H1, I1, rx, a, fs, v, ex, k, l, q⟩ := z
  subst ex
  obtain rfl : u = Value.ref a := rx
  obtain ⟨oe, od, mA, J, hl, hr⟩ := k.inst I1
  obtain ⟨y, hy, ry⟩ := RelO.some_of (v := v) (o := mA n) (by rw [← l]; exact hr n)
  exact HandSPX.exc_get I1.kIn J T.ga T.gg T.sb (PySem.W.findObj_own T.hd hno rfl (by rw [hl, hy])) (handed_of ry) ⟨v, H1, I1.tok _, ry, q⟩
/-- isinstance(e, c), isinstance(e, (c1, ..)) of a kept exception -/
def rIsK (K : PySem.W.Frag) (C : Addr) : List V → Hp → VK → Prop := fun xs H Q => ∃ (a : Addr) (fs : List (Str × V)) (c : V) (u : Value) (b : Bool), xs = [.ref a, c] ∧ Kept H a C fs ∧ ClsV c u ∧ PySem.W.kitOne K (.ref C) u = some b ∧ Q (.bl b) H
def rIsKT (K : PySem.W.Frag) (C : Addr) : List V → Hp → VK → Prop := fun xs H Q => ∃ (a tp : Addr) (fs : List (Str × V)) (cs : List V) (us : List Value) (b : Bool), xs = [.ref a, .ref tp] ∧ Kept H a C fs ∧
  H tp = some (.tup cs) ∧ Paired ClsV cs us ∧ PySem.W.kitAny K (.ref C) us = some b ∧ Q (.bl b) H
theorem call_isK {X : Cx} {C : Addr} (T : XcC X.K C) : CallR X (.builtin "isinstance") (rIsK X.K C) := by
  intro pins s σ H xs us Q I r h
  obtain ⟨a, fs, c, u, b, rfl, k, hc, e, q⟩ := h
  obtain ⟨u1, u2, rfl, r1, r2⟩ := vals2 r
  have e2 := hc.eq r2
  subst e2
  cases (show u1 = Value.ref a from r1)
  obtain ⟨oe, od, mA, J, _, _⟩ := k.inst I
  exact PySem.W.kia_one (PySem.W.kitx_exc (ox := oe) (od := some od) T.cl T.ga T.gg T.sb T.ha T.hn T.ht T.hm) I.kIn J e (fun z => nomatch z) fun tk => ⟨.bl b, H, I.tok tk, rfl, q⟩
theorem call_isKT {X : Cx} {C : Addr} (T : XcC X.K C) : CallR X (.builtin "isinstance") (rIsKT X.K C) := by
  intro pins s σ H xs us Q I r h
  obtain ⟨a, tp, fs, cs, ws, b, rfl, k, hT, hc, e, q⟩ := h
  obtain ⟨u1, u2, rfl, r1, r2⟩ := vals2 r
  cases (show u1 = Value.ref a from r1)
  cases (show u2 = Value.ref tp from r2)
  obtain ⟨oe, od, mA, J, _, _⟩ := k.inst I
  have ht : ObjOk X.prog X.w H s.heap tp (.tup cs) := I.hok tp _ hT
  obtain ⟨_, its, rv, o, h1, h2, n, h3⟩ := ht
  have e3 := ClsV.all hc rv
  subst e3
  obtain ⟨oc, od2, dt, sl⟩ := o
  simp only at h2 h3
  subst h2 h3
  exact PySem.W.kia_tup (PySem.W.kitx_exc (ox := oe) (od := some od) T.cl T.ga T.gg T.sb T.ha T.hn T.ht T.hm) I.kIn J h1 e (fun z => nomatch z) fun tk => ⟨.bl b, H, I.tok tk, rfl, q⟩
/-! ### B.__init__(self, ..), B an own class over ValueError without own __init__ -/
structure BiC (K : PySem.W.Frag) (B : Addr) : Prop where
  rd : PySem.W.readsIn K B (.type "type") = true
  sp : PySem.W.specialIn K (.ref B) "__getattribute__" = some (some (.builtin "type.__getattribute__"))
  fi : PySem.W.findCls K (.ref B) (.type "type") "__init__" = some (.val (.builtin "ValueError.__init__"))
theorem pe_binit {X : Cx} {B : Addr} {x : Str} {e : Expr} {es : List Expr} {ta : TA} {p1 p2 pos : Pos} {pl : Sem Bool} (T : BiC X.K B) (gl : Gl X x) (mg : X.mg x = some (.ref B)) (ha : PA X (e :: es) ta) (hdb : (x == ("__debug__" : Str)) = false := by decide)
    (hc : eval (.Call (.Attribute (.Name x p1) "__init__" p2) (e :: es) [] pos) X.env = (do
      let ov ← eval (.Name x p1) X.env
      standAt p2.atName
      let (f, first) ← holding [ov] (getMethod ov "__init__" pl)
      callWith pos f first (backTo pos (starEach (e :: es) X.env)) (backToKw pos (keywordEach [] X.env))) := by rfl)
    (he : starEach (e :: es) X.env = (false, eval e X.env) :: starEach es X.env := by rfl) (hpl : (backTo pos (starEach es X.env)).any (·.1) = false := by rfl) :
    PE X (.Call (.Attribute (.Name x p1) "__init__" p2) (e :: es) [] pos) (tVeI X.K ta) := by
  refine ⟨fun pins s σ H Q I h => PySem.W.methodCall_KW (ld_glob I gl mg ?_ hdb) hc⟩
  refine PySem.W.method_cls I.kIn T.sp (PySem.W.cls_value I.kIn T.rd T.fi (by decide +kernel) ?_)
  show wpAny _ _ (callWith pos (Value.builtin "ValueError.__init__") [] (backTo pos (starEach (e :: es) X.env)) []) _ _ _
  refine PyProof.Rows.callWith_method1 (thn (ha.run pos pins _ σ H _ (I.tok _) h) fun us s1 z => ?_) he hpl
  obtain ⟨vs, H1, I1, r1, a, C, ws, ev, hl, Tx, ea, q⟩ := z
  subst ev
  cases r1 with
  | @cons _ u0 _ ur ra rw' =>
    obtain rfl : u0 = Value.ref a := ra
    refine oinit_ok Tx I1 ea ?_ fun s' J => ⟨.non, H1, J, rfl, q⟩
    rw [← Paired.length rw', sizeLine_eq]
    omega
/-! ### calls in a try's body: what is raised is wished for at the slots -/
section
variable {X : Cx} {CX : CXT} {k n : Nat} {f C : Addr} {fd : FuncData} {ps ks : List Str} {sp : Sp} {dvs : List V} {ds : List Value} {E : L2.St → XK} {x : Str} {p pos : Pos} {e : Expr} {es : List Expr} {kws : List Keyword} {t tk : TA}
  {g : List Value → List Value → List Value} {gV : List V → List V → List V}
def tMakeS (C : Addr) (sp : Sp) (dvs : List V) (E : L2.St → XK) (t : TA) : TE := fun σ H Q => t σ H fun vs H1 => ∀ x dx, H1 x = none → H1 dx = none → dx ≠ x →
  sp (.ref x :: (vs ++ dvs)) (upd (upd H1 dx (.own x)) x (.ins C dx [])) (fun v H2 => v = .non ∧ Q (.ref x) H2) (E σ)
theorem pe_makeS (M : Mk X.K C f) (F : FnOk X.prog X.w X.K X.mg X.base CX k f fd ps sp) (room : Room (k + 1) X.A) (gl : Gl X x) (mg : X.mg x = some (.ref C)) (bd : Binds X.K fd ps ds) (rd : Vals dvs ds) (px : ∀ σ, PassesAt CX X σ (E σ))
    (ha : PA X (e :: es) t) (hdb : (x == ("__debug__" : Str)) = false := by decide) (he : starEach (e :: es) X.env = (false, eval e X.env) :: starEach es X.env := by rfl) (hpl : (backTo pos (starEach es X.env)).any (·.1) = false := by rfl) :
    PE X (.Call (.Name x p) (e :: es) [] pos) (tMakeS C sp dvs E t) := by
  refine ⟨fun pins s σ H Q I h => wpAny_Call_Name_kw (ld_glob I gl mg ?_ hdb)⟩
  refine PySem.W.callWith_K (h₀ := X.base) I.ok.mod.kin M.kp (thn (ha.run pos pins s σ H _ I h) fun us s1 z => ?_) he hpl
  obtain ⟨vs, H1, I1, r, q⟩ := z
  refine ⟨I1.kIn, ?_⟩
  have q1 := q (s1.heap.objs.size + 1) s1.heap.objs.size (I1.hok.fresh (Nat.le_succ _)) (I1.hok.fresh (Nat.le_refl _)) (Nat.ne_of_lt (Nat.lt_succ_self _))
  have I2 := Inv.made (C := C) I1
  have r2 : Vals (V.ref (s1.heap.objs.size + 1) :: (vs ++ dvs)) (Value.ref (s1.heap.objs.size + 1) :: (us ++ ds)) := .cons rfl (r.append rd)
  have many : (Value.ref (s1.heap.objs.size + 1) :: us ++ ds).length = ps.length := (r2.length.symm.trans (F.len _ _ _ _ q1))
  refine wpAny_call (make_map (f := f) I1.kIn M.makes M.init (beq_iff_eq.mp M.fn) (codeAny_mono (F.run _ X.stack _ _ ⟨Value.ref (s1.heap.objs.size + 1) :: us, []⟩ (Value.ref (s1.heap.objs.size + 1) :: (us ++ ds)) _ _ (E σ)
    (room.make C us []) (I2.env0.make C us []) (bd _ (Value.ref (s1.heap.objs.size + 1) :: us) I2.kIn many) r2 q1) fun r s' z => ?_))
  cases r with
  | error e => exact px σ pins _ _ e s' I2 z
  | ok fl =>
    cases fl with
    | ret u =>
      obtain ⟨v, H', I3, rv, ev, q3⟩ := I2.after z
      subst ev
      exact ⟨rv, ⟨V.ref (s1.heap.objs.size + 1), H', I3, rfl, q3⟩⟩
    | next => exact False.elim z
    | brk => exact False.elim z
    | cont => exact False.elim z
def tMakeKS (C : Addr) (m : Nat) (sp : Sp) (gV : List V → List V → List V) (E : L2.St → XK) (tk : TA) : TE := fun σ H Q => tk σ H fun zs H2 => zs.length = m ∧
  ∀ x dx, H2 x = none → H2 dx = none → dx ≠ x → sp (gV [.ref x] zs) (upd (upd H2 dx (.own x)) x (.ins C dx [])) (fun v H3 => v = .non ∧ Q (.ref x) H3) (E σ)
theorem pe_makeKS (M : Mk X.K C f) (F : FnOk X.prog X.w X.K X.mg X.base CX k f fd ps sp) (room : Room (k + 1) X.A) (gl : Gl X x) (mg : X.mg x = some (.ref C)) (kb : KBn X.K fd ps 1 ks g gV) (px : ∀ σ, PassesAt CX X σ (E σ)) (pk : PK X kws tk)
    (hall : (backToKw pos (keywordEach kws X.env)).all (·.1.isSome) = true := by rfl) (hks : (backToKw pos (keywordEach kws X.env)).filterMap (·.1) = ks := by rfl) (hdb : (x == ("__debug__" : Str)) = false := by decide)
    (hpl : ((backTo pos (starEach [] X.env)).any (·.1) || (backToKw pos (keywordEach kws X.env)).any (·.1.isNone)) = false := by rfl) :
    PE X (.Call (.Name x p) [] kws pos) (tMakeKS C ks.length sp gV E tk) := by
  refine ⟨fun pins s σ H Q I h => wpAny_Call_Name_kw (ld_glob I gl mg ?_ hdb)⟩
  refine PySem.W.callWith_KW0 (h₀ := X.base) I.ok.mod.kin M.kp hall (thn (pk.run pos pins s σ H _ I h) fun ws s1 z => ?_) hpl
  obtain ⟨zs, H1, I1, rz, l2, q⟩ := z
  refine ⟨I1.kIn, ?_⟩
  rw [hks]
  have q1 := q (s1.heap.objs.size + 1) s1.heap.objs.size (I1.hok.fresh (Nat.le_succ _)) (I1.hok.fresh (Nat.le_refl _)) (Nat.ne_of_lt (Nat.lt_succ_self _))
  have I2 := Inv.made (C := C) I1
  have r1 : Vals [V.ref (s1.heap.objs.size + 1)] [Value.ref (s1.heap.objs.size + 1)] := .cons rfl .nil
  have r2 := kb.rel r1 rz
  refine wpAny_call (make_map (f := f) I1.kIn M.makes M.init (beq_iff_eq.mp M.fn) (codeAny_mono (F.run _ X.stack _ _ ⟨[Value.ref (s1.heap.objs.size + 1)], ks.zip ws⟩ (g [Value.ref (s1.heap.objs.size + 1)] ws) _ _ (E σ)
    (room.make C [] (ks.zip ws)) (I2.env0.make C [] (ks.zip ws)) (kb.to _ [Value.ref (s1.heap.objs.size + 1)] ws I2.kIn rfl (rz.length.symm.trans l2)) r2 q1) fun r s' z => ?_))
  cases r with
  | error e => exact px σ pins _ _ e s' I2 z
  | ok fl =>
    cases fl with
    | ret u =>
      obtain ⟨v, H', I3, rv, ev, q3⟩ := I2.after z
      subst ev
      exact ⟨rv, ⟨V.ref (s1.heap.objs.size + 1), H', I3, rfl, q3⟩⟩
    | next => exact False.elim z
    | brk => exact False.elim z
    | cont => exact False.elim z
def tCallKS (m : Nat) (sp : Sp) (gV : List V → List V → List V) (E : L2.St → XK) (tk : TA) : TE := fun σ H Q => tk σ H fun zs H2 => zs.length = m ∧ sp (gV [] zs) H2 Q (E σ)
theorem pe_callKS (F : FnOk X.prog X.w X.K X.mg X.base CX k f fd ps sp) (room : Room k X.A) (gl : Gl X x) (mg : X.mg x = some (.ref f)) (kp : PySem.W.keepIn X.K (.ref f) = true) (kb : KBn X.K fd ps 0 ks g gV) (px : ∀ σ, PassesAt CX X σ (E σ)) (pk : PK X kws tk)
    (hall : (backToKw pos (keywordEach kws X.env)).all (·.1.isSome) = true := by rfl) (hks : (backToKw pos (keywordEach kws X.env)).filterMap (·.1) = ks := by rfl) (hdb : (x == ("__debug__" : Str)) = false := by decide)
    (hpl : ((backTo pos (starEach [] X.env)).any (·.1) || (backToKw pos (keywordEach kws X.env)).any (·.1.isNone)) = false := by rfl) :
    PE X (.Call (.Name x p) [] kws pos) (tCallKS ks.length sp gV E tk) := by
  refine ⟨fun pins s σ H Q I h => wpAny_Call_Name_kw (ld_glob I gl mg ?_ hdb)⟩
  refine PySem.W.callWith_KW0 (h₀ := X.base) I.ok.mod.kin kp hall (thn (pk.run pos pins s σ H _ I h) fun ws s1 z => ?_) hpl
  obtain ⟨zs, H1, I1, rz, l2, q⟩ := z
  refine ⟨I1.kIn, ?_⟩
  rw [hks]
  have rn : Vals [] [] := .nil
  have r2 := kb.rel rn rz
  refine wpAny_call (codeAny_mono (F.run X.A X.stack s1 H1 ⟨[], ks.zip ws⟩ (g [] ws) (gV [] zs) Q (E σ) room I1.env0 (kb.to s1 [] ws I1.kIn rfl (rz.length.symm.trans l2)) r2 q) fun r s' z => ?_)
  cases r with
  | error e => exact px σ pins _ _ e s' I1 z
  | ok fl =>
    cases fl with
    | ret u => exact I1.after z
    | next => exact False.elim z
    | brk => exact False.elim z
    | cont => exact False.elim z
end
end Xk
set_option Elab.async false
set_option linter.all false
set_option maxRecDepth 100000
set_option maxHeartbeats 4000000
set_option pp.maxSteps 400
set_option pp.deepTerms false
/-! Things of any kind: texts, numbers, truths, None, and lists, tuples, dicts of these, at any depth. -/
namespace Az
open PySem PySem.Spec PyProof.Rows L2
def keyD : Key → PyData
  | .inl i => .int i
  | .inr x => .str x
mutual
inductive Dz (K : PySem.W.Frag) (H : Hp) : V → PyData → Prop
  | non : Dz K H .non .none
  | bl (b : Bool) : Dz K H (.bl b) (.bool b)
  | int (i : Int) : Dz K H (.int i) (.int i)
  | str (x : Str) : Dz K H (.str x) (.str x)
  | lst {a : Addr} {xs : List V} {ds : List PyData} : H a = some (.lst xs) → a ≠ sysModules → DzAll K H xs ds → Dz K H (.ref a) (.list ds)
  | tup {a : Addr} {xs : List V} {ds : List PyData} : H a = some (.tup xs) → DzAll K H xs ds → Dz K H (.ref a) (.tuple ds)
  | dct {a : Addr} {kvs : List (Key × V)} {ds : List (PyData × PyData)} : H a = some (.dK kvs) → DzKv K H kvs ds → Dz K H (.ref a) (.dict ds)
inductive DzAll (K : PySem.W.Frag) (H : Hp) : List V → List PyData → Prop
  | nil : DzAll K H [] []
  | cons {v : V} {vs : List V} {d : PyData} {ds : List PyData} : Dz K H v d → DzAll K H vs ds → DzAll K H (v :: vs) (d :: ds)
inductive DzKv (K : PySem.W.Frag) (H : Hp) : List (Key × V) → List (PyData × PyData) → Prop
  | nil : DzKv K H [] []
  | cons {k : Key} {v : V} {kvs : List (Key × V)} {d : PyData} {ds : List (PyData × PyData)} : Dz K H v d → DzKv K H kvs ds → DzKv K H ((k, v) :: kvs) ((keyD k, d) :: ds)
end
section
variable {K : PySem.W.Frag} {H H' : Hp}
mutual
/-- what is read of a thing stays while its objects do -/
theorem Dz.keep (s : ∀ b o, H b = some o → (∀ x, o ≠ .own x) → H' b = some o) : ∀ {v : V} {d : PyData}, Dz K H v d → Dz K H' v d
  | _, _, .non => .non
  | _, _, .bl b => .bl b
  | _, _, .int i => .int i
  | _, _, .str x => .str x
  | _, _, .lst e n r => .lst (s _ _ e (fun _ z => by cases z)) n (DzAll.keep s r)
  | _, _, .tup e r => .tup (s _ _ e (fun _ z => by cases z)) (DzAll.keep s r)
  | _, _, .dct e r => .dct (s _ _ e (fun _ z => by cases z)) (DzKv.keep s r)
theorem DzAll.keep (s : ∀ b o, H b = some o → (∀ x, o ≠ .own x) → H' b = some o) : ∀ {v : List V} {d : List PyData}, DzAll K H v d → DzAll K H' v d
  | _, _, .nil => .nil
  | _, _, .cons h r => .cons (Dz.keep s h) (DzAll.keep s r)
theorem DzKv.keep (s : ∀ b o, H b = some o → (∀ x, o ≠ .own x) → H' b = some o) : ∀ {v : List (Key × V)} {d : List (PyData × PyData)}, DzKv K H v d → DzKv K H' v d
  | _, _, .nil => .nil
  | _, _, .cons h r => .cons (Dz.keep s h) (DzKv.keep s r)
end
theorem Dz.same {v : V} {d : PyData} (h : Dz K H v d) (s : L2.Same H H') : Dz K H' v d := h.keep fun b o e _ => s b o e
theorem DzAll.same {v : List V} {d : List PyData} (h : DzAll K H v d) (s : L2.Same H H') : DzAll K H' v d := h.keep fun b o e _ => s b o e
/-- the kind of a thing -/
def kindD : PyData → String
  | .none => "NoneType"
  | .bool _ => "bool"
  | .int _ => "int"
  | .str _ => "str"
  | .list _ => "list"
  | .tuple _ => "tuple"
  | .dict _ => "dict"
theorem Dz.ty {v : V} {d : PyData} (h : Dz K H v d) : TyX K H v (.type (kindD d)) := by
  cases h with
  | non => exact .base .non
  | bl b => exact .base (.bl b)
  | int i => exact .base (.int i)
  | str x => exact .base (.str x)
  | lst e _ _ => exact .base (.lst e)
  | tup e _ => exact .base (.tup e)
  | dct e _ => exact .base (.dK e)
end
section
variable {X : Cx} {pins : List (Addr × Obj)} {σ : L2.St} {H : Hp} {s : Shared}
theorem pairs_keys {P : Program} {w : World} : ∀ {es : List DictEntry} {vs : List (Key × Value)}, PySem.Pairs (mixKind P w) es vs → ∃ as, ReadsAll s.heap (es.map (·.key)) (vs.map fun p => keyD p.1) as ∧ as = []
  | _, _, .nil => ⟨[], .nil, rfl⟩
  | e :: es, (k, u) :: vs, .cons h1 h2 r => by
    obtain ⟨as, q, rfl⟩ := pairs_keys r
    rcases keyIs_shape (show keyIs k e.key = true from h1) with ⟨i, t, rfl, ek⟩ | ⟨x, t, rfl, ek⟩
    · refine ⟨[] ++ [], .cons ?_ q, rfl⟩
      show Reads s.heap e.key (.int i) []
      rw [ek]
      exact .int i t
    · refine ⟨[] ++ [], .cons ?_ q, rfl⟩
      show Reads s.heap e.key (.str x) []
      rw [ek]
      exact .str x t
theorem pairs_vals {P : Program} {w : World} : ∀ {es : List DictEntry} {vs : List (Key × Value)}, PySem.Pairs (mixKind P w) es vs → es.map (·.val) = vs.map (·.2)
  | _, _, .nil => rfl
  | e :: es, (k, u) :: vs, .cons h1 h2 r => by
    rw [List.map_cons, List.map_cons, pairs_vals r, h2]
mutual
theorem Dz.reads (I : Inv X pins σ H s) : ∀ (d : PyData) (v : V) (u : Value), Dz X.K H v d → RelV v u → ∃ as, Reads s.heap u d as ∧ sysModules ∉ as
  | .none, _, _, h, r => by
    cases h
    cases r
    exact ⟨[], .none, by simp⟩
  | .bool b, _, _, h, r => by
    cases h
    cases r
    exact ⟨[], .bool b, by simp⟩
  | .int i, _, _, h, r => by
    cases h
    obtain ⟨t, rfl⟩ := r
    exact ⟨[], .int i t, by simp⟩
  | .str x, _, _, h, r => by
    cases h
    obtain ⟨t, rfl⟩ := r
    exact ⟨[], .str x t, by simp⟩
  | .list ds, _, _, h, r => by
    cases h with
    | @lst a xs _ e ne ha =>
      cases r
      have ok : ObjOk X.prog X.w H s.heap a (.lst xs) := I.hok a _ e
      obtain ⟨_, its, n, rv, eh⟩ := ok
      obtain ⟨as, q, na⟩ := DzAll.reads I ds xs its ha rv
      refine ⟨a :: as, .list eh rfl rfl (by simpa using q), fun m => ?_⟩
      rcases List.mem_cons.mp m with z | z
      · exact ne z.symm
      · exact na z
  | .tuple ds, _, _, h, r => by
    cases h with
    | @tup a xs _ e ha =>
      cases r
      have ok : ObjOk X.prog X.w H s.heap a (.tup xs) := I.hok a _ e
      obtain ⟨_, its, rv, o, eh, ec, n, ed⟩ := ok
      obtain ⟨as, q, na⟩ := DzAll.reads I ds xs its ha rv
      exact ⟨as, .tuple eh ec ed (by simpa using q), na⟩
  | .dict ds, _, _, h, r => by
    cases h with
    | @dct a kvs _ e ha =>
      cases r
      obtain ⟨_, ne, vs, rel, o, es, ep, eh, ex, ed, _, pr, _⟩ := dk_of I.hok e
      obtain ⟨as, q1, rfl⟩ := pairs_keys (s := s) pr
      obtain ⟨bs, q2, nb⟩ := DzKv.reads I ds kvs vs ha rel
      have hk : (vs.map fun p => keyD p.1) = ds.map (·.1) := DzKv.keys ha rel
      rw [hk] at q1
      refine ⟨a :: [] ++ bs, .dict eh ex.1 ed q1 (by rw [pairs_vals pr]; exact q2), fun m => ?_⟩
      rcases List.mem_cons.mp m with z | z
      · rw [← z] at ne
        simp at ne
      · exact nb z
theorem DzAll.reads (I : Inv X pins σ H s) : ∀ (ds : List PyData) (vs : List V) (us : List Value), DzAll X.K H vs ds → Vals vs us → ∃ as, ReadsAll s.heap us ds as ∧ sysModules ∉ as
  | [], _, _, h, r => by
    cases h
    cases r
    exact ⟨[], .nil, by simp⟩
  | d :: ds, _, _, h, r => by
    cases h with
    | cons h1 h2 =>
      cases r with
      | cons r1 r2 =>
        obtain ⟨as, q1, n1⟩ := Dz.reads I d _ _ h1 r1
        obtain ⟨bs, q2, n2⟩ := DzAll.reads I ds _ _ h2 r2
        exact ⟨as ++ bs, .cons q1 q2, fun m => (List.mem_append.mp m).elim n1 n2⟩
theorem DzKv.reads (I : Inv X pins σ H s) : ∀ (ds : List (PyData × PyData)) (kvs : List (Key × V)) (vs : List (Key × Value)), DzKv X.K H kvs ds → KV kvs vs → ∃ as, ReadsAll s.heap (vs.map (·.2)) (ds.map (·.2)) as ∧ sysModules ∉ as
  | [], _, _, h, r => by
    cases h
    cases r
    exact ⟨[], .nil, by simp⟩
  | (_, d) :: ds, _, _, h, r => by
    cases h with
    | cons h1 h2 =>
      cases r with
      | cons r1 r2 =>
        obtain ⟨as, q1, n1⟩ := Dz.reads I d _ _ h1 r1.2
        obtain ⟨bs, q2, n2⟩ := DzKv.reads I ds _ _ h2 r2
        exact ⟨as ++ bs, .cons q1 q2, fun m => (List.mem_append.mp m).elim n1 n2⟩
theorem DzKv.keys {K : PySem.W.Frag} : ∀ {ds : List (PyData × PyData)} {kvs : List (Key × V)} {vs : List (Key × Value)}, DzKv K H kvs ds → KV kvs vs → (vs.map fun p => keyD p.1) = ds.map (·.1)
  | [], _, _, h, r => by
    cases h
    cases r
    rfl
  | (_, d) :: ds, _, _, h, r => by
    cases h with
    | cons h1 h2 =>
      cases r with
      | cons r1 r2 =>
        rw [List.map_cons, List.map_cons, DzKv.keys h2 r2, ← r1.1]
end
/-- repr of a thing -/
def rReprZ (K : PySem.W.Frag) : List V → Hp → VK → Prop := fun xs H Q => ∃ (v : V) (d : PyData), xs = [v] ∧ Dz K H v d ∧ d.showable = true ∧ d.depth ≤ 60 ∧ d.shown.length ≤ sizeLine ∧ Q (.str d.shown) H
theorem cr_reprZ {k : Nat} (quiet : X.A.guards = some []) (room : Room k X.A) : CallR X (.builtin "repr") (rReprZ X.K) := by
  intro pins s σ H xs us Q I r h
  obtain ⟨v, d, rfl, hd, hs, hp, hz, q⟩ := h
  obtain ⟨u, rfl, rx⟩ := vals1 r
  have hu := room.units
  cases hd with
  | non =>
    cases rx
    exact PySem.P.repr_of_none ⟨.str _, H, I.tok _, ⟨_, rfl⟩, q⟩
  | bl b =>
    cases rx
    exact PySem.P.repr_of_bool ⟨.str _, H, I.tok _, ⟨_, rfl⟩, q⟩
  | int i =>
    obtain ⟨t, rfl⟩ := rx
    exact PySem.P.repr_of_int (by simpa [PyData.showable] using hs) ⟨.str _, H, I.tok _, ⟨_, rfl⟩, q⟩
  | str x =>
    obtain ⟨t, rfl⟩ := rx
    exact PySem.P.repr_of_str ⟨.str _, H, I.tok _, ⟨_, rfl⟩, q⟩ hz
  | lst e n ha =>
    obtain ⟨as, rd, na⟩ := Dz.reads I _ _ u (.lst e n ha) rx
    cases rx
    exact repr_of_reads' rd hs (fun _ => na) quiet (by omega) (fun _ _ z => z) (fun h' u tk kept => ⟨.str _, H, I.kept kept, ⟨u, rfl⟩, q⟩) hz
  | tup e ha =>
    obtain ⟨as, rd, na⟩ := Dz.reads I _ _ u (.tup e ha) rx
    cases rx
    exact repr_of_reads' rd hs (fun _ => na) quiet (by omega) (fun _ _ z => z) (fun h' u tk kept => ⟨.str _, H, I.kept kept, ⟨u, rfl⟩, q⟩) hz
  | dct e ha =>
    obtain ⟨as, rd, na⟩ := Dz.reads I _ _ u (.dct e ha) rx
    cases rx
    exact repr_of_reads' rd hs (fun _ => na) quiet (by omega) (fun _ _ z => z) (fun h' u tk kept => ⟨.str _, H, I.kept kept, ⟨u, rfl⟩, q⟩) hz
/-- a list of written items: new, and no table of modules -/
def tLstZ (t : TA) : TE := fun σ H Q => t σ H fun xs H1 => xs.length ≤ sizeLine ∧ ∀ p, H1 p = none → p ≠ sysModules → Q (.ref p) (upd H1 p (.lst xs))
theorem pe_lstZ {es : List Expr} {t : TA} {pos : Pos} (h : PA X es t) : PE X (.List es pos) (tLstZ t) := by
  refine ⟨fun pins s σ H Q I hq => wpAny_List_spliced (thn (h.run pos pins s σ H _ I hq) fun us s1 z => ?_)⟩
  obtain ⟨xs, H1, I1, r, z, q⟩ := z
  refine ⟨by rw [← r.length]; exact z, ?_⟩
  have new : H1 s1.heap.objs.size = none := I1.hok.fresh (Nat.le_refl _)
  refine ⟨.ref s1.heap.objs.size, upd H1 s1.heap.objs.size (.lst xs), I1.laid (t' := s1.toks) (fun b u e => Heap.get?_push_of_some _ e) (Nat.le_refl _) ?_, rfl, q _ new (Nat.ne_of_gt I1.big)⟩
  exact ⟨z, us, 0, r, Heap.get?_push_size _ rfl⟩
end
end Az
namespace Az
open PySem PySem.Spec PyProof.Rows L2
/-- a thing that is shown in n signs at most, at most k deep -/
structure Nice (d : PyData) (k n : Nat) : Prop where
  sh : d.showable = true
  dp : d.depth ≤ k
  sz : d.shown.length ≤ n
theorem Nice.mono {d : PyData} {k k' n n' : Nat} (h : Nice d k n) (hk : k ≤ k') (hn : n ≤ n') : Nice d k' n' := ⟨h.sh, Nat.le_trans h.dp hk, Nat.le_trans h.sz hn⟩
theorem nice_int {i : Int} {n : Nat} (h : i.natAbs.log2 < 1920) (hn : (Str.ofString (toString i)).length ≤ n) : Nice (.int i) 0 n :=
  ⟨by simpa [PyData.showable] using h, by simp [PyData.depth], by simpa [PyData.shown] using hn⟩
theorem nice_none : Nice .none 0 4 := ⟨by simp [PyData.showable], by simp [PyData.depth], by simp only [PyData.shown]; decide +kernel⟩
theorem nice_bool (b : Bool) : Nice (.bool b) 0 5 := ⟨by simp [PyData.showable], by simp [PyData.depth], by simp only [PyData.shown]; cases b <;> decide +kernel⟩
theorem nice_str {x : Str} {n : Nat} (h : (reprText x).length ≤ n) : Nice (.str x) 0 n := ⟨by simp [PyData.showable], by simp [PyData.depth], by simpa [PyData.shown] using h⟩
theorem list_le : ∀ ts : List Str, (listText ts).length ≤ piled ts + 2
  | [] => by decide +kernel
  | t :: ts => by
    have e : (textFrom 0 "[" (t :: ts)).length = 1 + t.length + piled ts := by
      show (textFrom 1 (("[" : Str) ++ ((if 0 > 0 then ", " else "" : String) : Str) ++ t) ts).length = _
      rw [textFrom_length_pos ts 1 _ (by decide), strLen_append, strLen_append]
      rfl
    unfold listText
    rw [strLen_append, e, piled_cons]
    show 1 + t.length + piled ts + 1 ≤ _
    omega
theorem dict_le (ps : List Str) : (dictText ps).length ≤ piled ps + 2 := by
  unfold dictText
  rw [strLen_append, strLen_append]
  show 1 + (Str.join ", " ps).length + 1 ≤ _
  cases ps with
  | nil => decide
  | cons p r =>
    have := join_length_add (p :: r) (by simp)
    omega
theorem nice_tup1 {d : PyData} {k n : Nat} (h : Nice d k n) : Nice (.tuple [d]) (k + 1) (n + 4) := by
  refine ⟨by simp [PyData.showable, PyData.showableAll, h.sh], ?_, ?_⟩
  · simp only [PyData.depth, PyData.depthAll]
    have := h.dp
    omega
  · simp only [PyData.shown, PyData.shownAll]
    have a := fmt_text [d.shown]
    simp only [piled_cons, piled_nil] at a
    have := h.sz
    omega
theorem nice_lst1 {d : PyData} {k n : Nat} (h : Nice d k n) : Nice (.list [d]) (k + 1) (n + 4) := by
  refine ⟨by simp [PyData.showable, PyData.showableAll, h.sh], ?_, ?_⟩
  · simp only [PyData.depth, PyData.depthAll]
    have := h.dp
    omega
  · simp only [PyData.shown, PyData.shownAll]
    have a := list_le [d.shown]
    simp only [piled_cons, piled_nil] at a
    have := h.sz
    omega
theorem nice_dct1 {d : PyData} {k n m : Nat} {x : Str} (hx : (reprText x).length ≤ m) (h : Nice d k n) : Nice (.dict [(.str x, d)]) (k + 1) (n + m + 6) := by
  refine ⟨by simp [PyData.showable, PyData.showableKv, h.sh], ?_, ?_⟩
  · simp only [PyData.depth, PyData.depthKv]
    have := h.dp
    omega
  · simp only [PyData.shown, PyData.shownKv]
    have a := dict_le [reprText x ++ ": " ++ d.shown]
    simp only [piled_cons, piled_nil, strLen_append] at a
    have c : ((": " : Str)).length = 2 := by decide +kernel
    have := h.sz
    omega
theorem nice_tup0 : Nice (.tuple []) 1 2 := ⟨by simp [PyData.showable, PyData.showableAll], by simp [PyData.depth, PyData.depthAll], by simp only [PyData.shown, PyData.shownAll]; decide +kernel⟩
theorem nice_lst0 : Nice (.list []) 1 2 := ⟨by simp [PyData.showable, PyData.showableAll], by simp [PyData.depth, PyData.depthAll], by simp only [PyData.shown, PyData.shownAll]; decide +kernel⟩
theorem nice_dct0 : Nice (.dict []) 1 2 := ⟨by simp [PyData.showable, PyData.showableKv], by simp [PyData.depth, PyData.depthKv], by simp only [PyData.shown, PyData.shownKv]; decide +kernel⟩
end Az
set_option Elab.async false
set_option linter.all false
set_option maxRecDepth 100000
set_option maxHeartbeats 4000000
set_option pp.maxSteps 400
set_option pp.deepTerms false
namespace Az
open PySem PySem.Spec PyProof.Rows L2
/-! ### texts of signs that have a number of eight places -/
def Asc (x : Str) : Prop := ∀ c ∈ x.cps.toList, c < 16 ^ 8
theorem asc_str (s : String) : Asc (Str.ofString s) := fun c hc => by
  rw [Str.ofString_eq_toList] at hc
  simp only [List.mem_map] at hc
  obtain ⟨k, _, rfl⟩ := hc
  exact Nat.lt_of_lt_of_le (UInt32.toNat_lt k.val) (by decide)
theorem Asc.app {x y : Str} (h1 : Asc x) (h2 : Asc y) : Asc (x ++ y) := fun c hc => by
  rw [Str.cps_append, Array.toList_append, List.mem_append] at hc
  exact hc.elim (h1 c) (h2 c)
theorem asc_hex (l : List Char) (n : Nat) : ∀ c ∈ List.replicate n 48 ++ l.map Char.toNat, c < 16 ^ 8 := fun c hc => by
  rcases List.mem_append.mp hc with h | h
  · rw [(List.mem_replicate.mp h).2]
    decide
  · obtain ⟨k, _, rfl⟩ := List.mem_map.mp h
    exact Nat.lt_of_lt_of_le (UInt32.toNat_lt k.val) (by decide)
theorem asc_char {q c : Nat} (hc : c < 16 ^ 8) : ∀ d ∈ Builtin.Str.reprChar q c, d < 16 ^ 8 := fun d hd => by
  unfold Builtin.Str.reprChar at hd
  dsimp only at hd
  have two : ∀ a : Nat, a < 16 ^ 8 → d ∈ [92, a] → d < 16 ^ 8 := fun a ha h => by
    simp only [List.mem_cons, List.not_mem_nil, or_false] at h
    rcases h with h | h
    · rw [h]; decide
    · rw [h]; exact ha
  have app : ∀ (a : Nat) (l : List Nat), a < 16 ^ 8 → (∀ c ∈ l, c < 16 ^ 8) → d ∈ [92, a] ++ l → d < 16 ^ 8 := fun a l ha hl h => (List.mem_append.mp h).elim (two a ha) (hl d)
  split at hd
  · exact two c hc hd
  · split at hd
    · exact two 110 (by decide) hd
    · split at hd
      · exact two 114 (by decide) hd
      · split at hd
        · exact two 116 (by decide) hd
        · split at hd
          · simp only [List.mem_cons, List.not_mem_nil, or_false] at hd
            rw [hd]
            exact hc
          · split at hd
            · exact app 120 _ (by decide) (asc_hex _ _) hd
            · split at hd
              · exact app 117 _ (by decide) (asc_hex _ _) hd
              · exact app 85 _ (by decide) (asc_hex _ _) hd
theorem asc_fold {q : Nat} : ∀ (l : List Nat) (acc : Array Nat), (∀ c ∈ l, c < 16 ^ 8) → (∀ c ∈ acc.toList, c < 16 ^ 8) → ∀ c ∈ (l.foldl (fun out c => out ++ (Builtin.Str.reprChar q c).toArray) acc).toList, c < 16 ^ 8
  | [], acc, _, h => h
  | k :: r, acc, hl, ha => by
    rw [List.foldl_cons]
    refine asc_fold r _ (fun c hc => hl c (List.mem_cons_of_mem _ hc)) fun c hc => ?_
    rw [Array.toList_append, List.mem_append] at hc
    exact hc.elim (ha c) fun h => asc_char (hl k List.mem_cons_self) c (by simpa using h)
theorem asc_quote (x : Str) : reprQuote x < 16 ^ 8 := by
  unfold reprQuote
  split <;> decide
theorem asc_repr {x : Str} (h : Asc x) : Asc (reprText x) := fun c hc => by
  unfold reprText at hc
  rw [Array.toList_push, List.mem_append, ← Array.foldl_toList] at hc
  rcases hc with hc | hc
  · refine asc_fold x.cps.toList #[reprQuote x] h (fun d hd => ?_) c hc
    have z : d = reprQuote x := by simpa using hd
    rw [z]
    exact asc_quote x
  · have z : c = reprQuote x := by simpa using hc
    rw [z]
    exact asc_quote x
theorem asc_join : ∀ ts : List Str, (∀ t ∈ ts, Asc t) → Asc (Str.join ", " ts)
  | [], _ => fun c hc => by
    have z : c ∈ (Str.empty).cps.toList := hc
    simp [Str.empty] at z
  | [x], h => h x List.mem_cons_self
  | x :: y :: r, h => ((h x List.mem_cons_self).app (asc_str ", ")).app (asc_join (y :: r) fun t ht => h t (List.mem_cons_of_mem _ ht))
theorem asc_from : ∀ (ts : List Str) (k : Nat) (acc : Str), Asc acc → (∀ t ∈ ts, Asc t) → Asc (textFrom k acc ts)
  | [], _, _, h, _ => h
  | t :: ts, k, acc, h, ht => by
    unfold textFrom
    exact asc_from ts (k + 1) _ ((h.app (asc_str _)).app (ht t List.mem_cons_self)) fun u hu => ht u (List.mem_cons_of_mem _ hu)
mutual
/-- all texts within a thing -/
def ascD : PyData → Prop
  | .none | .bool _ | .int _ => True
  | .str x => Asc x
  | .list xs | .tuple xs => ascAll xs
  | .dict kvs => ascKv kvs
def ascAll : List PyData → Prop
  | [] => True
  | x :: xs => ascD x ∧ ascAll xs
def ascKv : List (PyData × PyData) → Prop
  | [] => True
  | (k, v) :: r => ascD k ∧ ascD v ∧ ascKv r
end
mutual
theorem asc_shown : ∀ d : PyData, ascD d → Asc d.shown
  | .none, _ => asc_str "None"
  | .bool b, _ => by
    simp only [PyData.shown]
    cases b
    · exact asc_str "False"
    · exact asc_str "True"
  | .int i, _ => asc_str (toString i)
  | .str x, h => asc_repr (by simpa [ascD] using h)
  | .list xs, h => by
    simp only [PyData.shown]
    exact (asc_from _ _ _ (asc_str "[") (asc_shownAll xs (by simpa [ascD] using h))).app (asc_str "]")
  | .tuple xs, h => by
    simp only [PyData.shown]
    exact ((asc_str "(").app (asc_join _ (asc_shownAll xs (by simpa [ascD] using h)))).app (asc_str _)
  | .dict kvs, h => by
    simp only [PyData.shown]
    exact ((asc_str "{").app (asc_join _ (asc_shownKv kvs (by simpa [ascD] using h)))).app (asc_str "}")
theorem asc_shownAll : ∀ xs : List PyData, ascAll xs → ∀ t ∈ PyData.shownAll xs, Asc t
  | [], _, t, ht => by
    simp [PyData.shownAll] at ht
  | x :: xs, h, t, ht => by
    have h' : ascD x ∧ ascAll xs := by simpa [ascAll] using h
    simp only [PyData.shownAll, List.mem_cons] at ht
    rcases ht with e | e
    · rw [e]
      exact asc_shown x h'.1
    · exact asc_shownAll xs h'.2 t e
theorem asc_shownKv : ∀ xs : List (PyData × PyData), ascKv xs → ∀ t ∈ PyData.shownKv xs, Asc t
  | [], _, t, ht => by
    simp [PyData.shownKv] at ht
  | (k, v) :: xs, h, t, ht => by
    have h' : ascD k ∧ ascD v ∧ ascKv xs := by simpa [ascKv] using h
    simp only [PyData.shownKv, List.mem_cons] at ht
    rcases ht with e | e
    · rw [e]
      exact ((asc_shown k h'.1).app (asc_str ": ")).app (asc_shown v h'.2.1)
    · exact asc_shownKv xs h'.2.2 t e
end
/-- str of a thing -/
def strD : PyData → Str
  | .str x => x
  | d => d.shown
theorem strD_asc {d : PyData} (h : ascD d) : Asc (strD d) := by
  cases d with
  | str x => simpa [strD, ascD] using h
  | _ => exact asc_shown _ h
theorem len_repr (x : Str) : x.length ≤ (reprText x).length := by
  have grow : ∀ (q : Nat) (l : List Nat) (acc : Array Nat), acc.size + l.length ≤ (l.foldl (fun out c => out ++ (Builtin.Str.reprChar q c).toArray) acc).size := fun q l => by
    induction l with
    | nil => intro acc; simp
    | cons k r ih =>
      intro acc
      have h := ih (acc ++ (Builtin.Str.reprChar q k).toArray)
      have one : 1 ≤ (Builtin.Str.reprChar q k).length := by
        unfold Builtin.Str.reprChar
        dsimp only
        repeat' split
        all_goals simp
        all_goals omega
      rw [List.foldl_cons]
      simp only [Array.size_append, List.size_toArray] at h
      simp only [List.length_cons]
      omega
  have h := grow (reprQuote x) x.cps.toList #[reprQuote x]
  unfold reprText
  show x.length ≤ ((x.cps.foldl (fun out c => out ++ (Builtin.Str.reprChar (reprQuote x) c).toArray) #[reprQuote x]).push (reprQuote x)).size
  rw [Array.size_push, ← Array.foldl_toList]
  have e : x.cps.toList.length = x.length := by simp [Str.length]
  omega
theorem strD_len {d : PyData} : (strD d).length ≤ d.shown.length := by
  cases d with
  | str x =>
    simp only [strD, PyData.shown]
    exact len_repr x
  | _ => exact Nat.le_refl _
section
variable {X : Cx}
def rStrZ (K : PySem.W.Frag) : List V → Hp → VK → Prop := fun xs H Q => ∃ (v : V) (d : PyData), xs = [v] ∧ Dz K H v d ∧ d.showable = true ∧ d.depth ≤ 60 ∧ d.shown.length ≤ sizeLine ∧ Q (.str (strD d)) H
theorem cr_strZ {k : Nat} (quiet : X.A.guards = some []) (room : Room k X.A) : CallR X (.type "str") (rStrZ X.K) := by
  intro pins s σ H xs us Q I r h
  obtain ⟨v, d, rfl, hd, hs, hp, hz, q⟩ := h
  obtain ⟨u, rfl, rx⟩ := vals1 r
  have hu := room.un
  cases hd with
  | non =>
    cases rx
    exact PySem.P.str_of_none ⟨.str _, H, I.tok _, ⟨_, rfl⟩, q⟩
  | bl b =>
    cases rx
    exact PySem.P.str_of_bool ⟨.str _, H, I.tok _, ⟨_, rfl⟩, q⟩
  | int i =>
    obtain ⟨t, rfl⟩ := rx
    exact PySem.P.str_of_int (by simpa [PyData.showable] using hs) ⟨.str _, H, I.tok _, ⟨_, rfl⟩, q⟩
  | str x =>
    obtain ⟨t, rfl⟩ := rx
    exact PySem.P.str_of_str ⟨.str _, H, I, ⟨_, rfl⟩, q⟩
  | lst e n ha =>
    obtain ⟨as, rd, na⟩ := Dz.reads I _ _ u (.lst e n ha) rx
    cases rx
    exact str_of_reads rd hs (fun _ => na) quiet (by omega) (fun _ _ z => z) (fun h' u tk kept => ⟨.str _, H, I.kept kept, ⟨u, rfl⟩, q⟩) hz
  | tup e ha =>
    obtain ⟨as, rd, na⟩ := Dz.reads I _ _ u (.tup e ha) rx
    cases rx
    exact str_of_reads rd hs (fun _ => na) quiet (by omega) (fun _ _ z => z) (fun h' u tk kept => ⟨.str _, H, I.kept kept, ⟨u, rfl⟩, q⟩) hz
  | dct e ha =>
    obtain ⟨as, rd, na⟩ := Dz.reads I _ _ u (.dct e ha) rx
    cases rx
    exact str_of_reads rd hs (fun _ => na) quiet (by omega) (fun _ _ z => z) (fun h' u tk kept => ⟨.str _, H, I.kept kept, ⟨u, rfl⟩, q⟩) hz
end
end Az
set_option Elab.async false
set_option linter.all false
set_option maxRecDepth 100000
set_option maxHeartbeats 8000000
set_option pp.maxSteps 400
set_option pp.deepTerms false
/-! set(a list or a tuple of keys), of any number below the scan's bound; how many unlike ones there are. -/
namespace Xset
open PySem PySem.Spec PyProof.Rows
/-- how many unlike things -/
def cn {κ : Type} [DecidableEq κ] : List κ → Nat
  | [] => 0
  | x :: r => if x ∈ r then cn r else cn r + 1
theorem cn_le {κ : Type} [DecidableEq κ] : ∀ l : List κ, cn l ≤ l.length
  | [] => Nat.le_refl _
  | x :: r => by
    have := cn_le r
    unfold cn
    rw [List.length_cons]
    split <;> omega
theorem cn_nodup {κ : Type} [DecidableEq κ] : ∀ l : List κ, cn l = l.length ↔ l.Nodup
  | [] => by simp [cn]
  | x :: r => by
    have h := cn_le r
    unfold cn
    rw [List.length_cons, List.nodup_cons, ← cn_nodup r]
    by_cases m : x ∈ r
    · rw [if_pos m]
      exact ⟨fun z => by omega, fun z => absurd m z.1⟩
    · rw [if_neg m]
      exact ⟨fun z => ⟨m, by omega⟩, fun z => by omega⟩
section
variable {prog : Program} {w : World} {κ : Type} [DecidableEq κ] [BEq κ] [LawfulBEq κ] (knd : KeyKind prog w κ)
def SetL (h : Heap) (S : Addr) (ks : List κ) (i : Nat) : Prop := h.SetOf knd S (fun k => decide (k ∈ ks.take i)) (cn (ks.take i).reverse)
theorem SetL.at_ {h h' : Heap} {S : Addr} {ks : List κ} {i : Nat} (x : SetL knd h S ks i) (k : ∀ o, h.get? S = some o → h'.get? S = some o) : SetL knd h' S ks i := by
  obtain ⟨o, es, ep, t, ho, r⟩ := x
  exact ⟨o, es, ep, t, k o ho, r⟩
variable {A : Around} {R : Result → Shared → Prop} {it : Addr} {fp wr : List Addr} {G : Array GenState → Array GenState → Prop} {n : Nat} {P : Nat → Value → Prop} {St : Nat → Shared → Prop}
theorem run_all (W : WalksS prog w A.in1 it fp wr G n P St) {S : Addr} (nS : S ∉ fp) {ks : List κ} (lk : ks.length = n) (room : n + 1 < scanBound) (val : ∀ i v, P i v → ∃ k, ks[i]? = some k ∧ knd.is k v = true ∧ v.scannable = true) :
    ∀ (left i : Nat) (s : Shared), n - i = left → i ≤ n → St i s → SetL knd s.heap S ks i → (∀ s', Moved (S :: wr) G s s' → SetL knd s'.heap S ks n → R (.ok (.ret .none)) s') →
      codeAny (model prog w) A (.builtin "set.update.loop" ⟨[.ref S, .ref it], []⟩) R s := by
  have nw : S ∉ wr := fun z => nS (W.sub _ z)
  have up : ∀ b ∈ wr, b ∈ S :: wr := fun b m => List.mem_cons_of_mem _ m
  intro left
  induction left with
  | zero =>
    intro i s e le st hs q
    obtain rfl : i = n := by omega
    refine codeAny_builtin PyProof.Rows.F.entry_set_update_loop (by
      rw [Around.under_plainId PyProof.Rows.F.plain_set_update_loop _]
      show wpAny _ A.in1 (pyNext (.ref it) >>= _) _ _ s
      exact wpAny_bind (W.done s _ _ st fun s' mv => by
        show wpAny _ A.in1 (ret Value.none) _ _ s'
        exact wpAny_pure (q s' (mv.mono up) (hs.at_ knd fun o e => mv.heap S _ nw e))))
  | succ left ih =>
    intro i s e le st hs q
    have lt : i < n := by omega
    refine codeAny_builtin PyProof.Rows.F.entry_set_update_loop ?_
    rw [Around.under_plainId PyProof.Rows.F.plain_set_update_loop _]
    show wpAny _ A.in1 (pyNext (.ref it) >>= _) _ _ s
    refine wpAny_bind (W.item i s _ _ lt st fun v s' pv st' mv => ?_)
    obtain ⟨k, ek, kv, sc⟩ := val i v pv
    have hs' := hs.at_ (h' := s'.heap) knd fun o e => mv.heap S _ nw e
    show wpAny _ A.in1 (holding [v] (setAdd S v) >>= _) _ _ s'
    refine wpAny_bind (wpAny_holding (by
      unfold setAdd
      refine wpAny_holding (wpAny_bind (knd.pyHash kv ?_))
      have few : cn (ks.take i).reverse + 1 < scanBound := by
        have := cn_le (ks.take i).reverse
        rw [List.length_reverse, List.length_take] at this
        omega
      refine wpAny_setAddHashed_of (knd := knd) (s := { s' with toks := s'.toks + 1 }) kv sc hs' few fun h' sb new => ?_
      have tk : ks.take (i + 1) = ks.take i ++ [k] := by rw [List.take_succ, ek]; rfl
      have new' : SetL knd h' S ks (i + 1) := by
        refine SetOf_congr new (fun j => ?_) ?_
        · rw [tk, Bool.eq_iff_iff]
          simp
        · rw [tk, List.reverse_append]
          show _ = cn (k :: (ks.take i).reverse)
          simp only [cn, List.mem_reverse, decide_eq_true_eq]
      refine wpAny_pure ⟨plainId_quiet PyProof.Rows.F.plain_set_update_loop _, ih (i + 1) _ (by omega) lt (W.frame _ s' _ _ st' (Nat.le_add_right _ _) fun b m o z => ?_) new' fun s2 mv2 z2 => ?_⟩
      · exact (sb.2 b (fun c => nS (by rw [← c]; exact m))).trans z
      · exact q s2 (Moved.trans W.gtrans ((mv.mono up).then_heap (Nat.le_add_right _ _) fun b o m z => (sb.2 b (fun c => m (by rw [c]; exact List.mem_cons_self))).trans z) mv2) z2))
end
/-- what set(x) comes to, x a list or a tuple that holds keys -/
theorem set_made {prog : Program} {w : World} {κ : Type} [DecidableEq κ] [BEq κ] [LawfulBEq κ] (knd : KeyKind prog w κ) {A : Around} {E : Value → Shared → Prop} {s : Shared} {l : Addr} {xs : Array Value} {ks : List κ} {Q : Value → Shared → Prop}
    (quiet : A.handled = none) (src : s.heap.IsList l xs ∨ s.heap.IsTuple l xs) (lk : ks.length = xs.size) (room : xs.size + 1 < scanBound) (val : ∀ (i : Nat) (v : Value), xs[i]? = some v → ∃ k, ks[i]? = some k ∧ knd.is k v = true ∧ v.scannable = true)
    (q : ∀ (h' : Heap) (tk : Nat), SetL knd h' s.heap.objs.size ks xs.size → (∀ b o, b < s.heap.objs.size → s.heap.get? b = some o → h'.get? b = some o) → Q (.ref s.heap.objs.size) { s with heap := h', toks := tk }) :
    wpAny (model prog w) A (call (.type "set") [.ref l]) Q E s := by
  obtain ⟨cc, tl, mro⟩ := PySem.F.called_set.mro; have g1 := PySem.F.called_set.made; have g2 := PySem.F.called_set.sub
  refine wpAny_call (codeAny_of_tree ?_); show wpAny _ _ (callAny (.type "set") _) _ _ _
  refine wpAny_pure ⟨Code.quiet_builtin _ (by decide +kernel), codeAny_builtin PySem.F.entry_type_call ?_⟩; rw [Around.under_plain (weight_type_call_type "set" [.ref l] []) rfl]
  have g3 := PySem.F.called_set.notType; have g4 := PySem.F.called_set.canCreate; have g5 := PySem.F.typeCall_set_1 (.ref l)
  repeat (any_goals (first | assumption | wp_step))
  generalize hp : s.heap.objs.size = S at q ⊢
  refine codeAny_mono (code_set_new_1 (.ref l) (E := E) (Q₁ := fun ob s1 => ∃ led : Bool, ob = .ref S ∧ s1 = { s with heap := s.heap.push { cls := .type "set", dict := none, data := .set #[] 0 (.fresh 0 0 led) } }) fun led => ⟨led, by rw [hp], rfl⟩) fun r s1 hr => ?_
  match r, hr with
  | .error e, hr => exact hr
  | .ok .next, hr | .ok .brk, hr | .ok .cont, hr => exact hr.elim
  | .ok (.ret ob), ⟨led, e1, e2⟩ =>
  subst e1 e2
  generalize hob : ({ cls := .type "set", dict := none, data := .set #[] 0 (.fresh 0 0 led) } : Obj) = newS
  have atS : (s.heap.push newS).get? S = some newS := by rw [← hp]; exact Heap.get?_push_size _ (by rw [← hob]; rfl)
  have ty : Shared.TypeIs { s with heap := s.heap.push newS } (.ref S) "set" := ⟨_, atS, by rw [← hob]⟩
  have szS : (s.heap.push newS).objs.size = S + 1 := by rw [Heap.size_push, hp]
  have g6 := PySem.F.called_set.init.lookup; have g7 := PySem.F.called_set.init.bind (.ref S)
  repeat (any_goals (first | assumption | wp_step))
  -- what __init__ leaves
  refine codeAny_mono (codeAny_call_builtin (R := wants (fun r s2 => r = .none ∧ ∃ h' tk, s2 = { s with heap := h', toks := tk } ∧ SetL knd h' S ks xs.size ∧ ∀ b o, b < S → s.heap.get? b = some o → h'.get? b = some o) E) PySem.F.called_set.init.plain PySem.F.entry_set_init (check_set_init_1 ty ?_)) fun r2 s2 hr2 => ?_
  · rcases src with hl | hl
    · obtain ⟨⟨a1, a2, a3, a4⟩, ho, e1, n1, e2⟩ := hl
      simp only at e1 e2; subst e1 e2
      have lS : @LT.lt Nat _ l S := by rw [← hp]; exact Heap.lt_size ho
      have hl1 : (s.heap.push newS).IsList l xs := ⟨_, Heap.get?_push_of_some _ ho, rfl, n1, rfl⟩
      have f1 := PySem.F.sub_list_set; have f2 := PySem.F.sub_list_frozenset
      have f3 : (Value.type "list" == Value.type "dict") = false := by decide
      have ho1 := Heap.get?_push_of_some newS ho
      unfold Builtin.«set.__init__» noKeywords Builtin.Frozenset.updateFrom
      generalize hPI : pyIter = PI
      wp_walk
      rw [show newS.data = .set #[] 0 (.fresh 0 0 led) from by rw [← hob]]
      wp_walk
      subst hPI
      refine wpAny_pyIter_list hl1 ?_; refine wpAny_bind (wpAny_runValue ?_)
      have nI : l ≠ (s.heap.push newS).objs.size := by rw [szS]; exact Nat.ne_of_lt (Nat.lt_succ_of_lt lS)
      refine run_all (knd := knd) (ks := ks) ((Walks.list (show A.in1.in1.in1.handled = none by simp [quiet]) _ l nI xs).toS) (S := S) (by rw [szS]; simp only [List.mem_cons, List.not_mem_nil, or_false, not_or]; exact ⟨Nat.ne_of_lt (Nat.lt_succ_self _), Nat.ne_of_gt lS⟩) lk room val (xs.size - 0) 0 _ (by omega) (Nat.zero_le _) ⟨⟨_, Heap.get?_push_size _ rfl, rfl, rfl⟩, hl1.push _⟩ ?_ fun s' mv z => ?_
      · have at2 : ((s.heap.push newS).push { cls := .type "list_iterator", data := .fields #[.ref l, .int 0 0] }).get? S = some newS := Heap.get?_push_of_some _ atS
        have so : newS.SetObjOf knd (fun _ => false) 0 := by rw [← hob]; exact PyProof.Rows.setObjOf_fresh (knd := knd) led
        exact SetOf_congr (so.setOf at2 (by unfold scanBound; omega)) (fun _ => by simp) rfl
      · obtain ⟨h', g', d', tk', os'⟩ := s'
        obtain ⟨m1, m2, m3, m4, _⟩ := mv
        simp only at m1 m2 m3 m4 z
        subst m2 m3 m4
        show wpAny _ _ _ _ _ _
        refine wpAny_pure (show wpAny _ _ (ret Value.none) _ _ _ from wpAny_pure ⟨rfl, h', tk', rfl, z, fun b o lt e => m1 b o ?_ (Heap.get?_push_of_some _ (Heap.get?_push_of_some _ e))⟩)
        rw [szS]
        simp only [List.mem_cons, List.not_mem_nil, or_false, not_or]
        exact ⟨Nat.ne_of_lt lt, Nat.ne_of_lt (Nat.lt_succ_of_lt lt)⟩
    · obtain ⟨⟨a1, a2, a3, a4⟩, ho, e1, n1, e2⟩ := hl
      simp only at e1 e2; subst e1 e2
      have lS : @LT.lt Nat _ l S := by rw [← hp]; exact Heap.lt_size ho
      have hl1 : (s.heap.push newS).IsTuple l xs := ⟨_, Heap.get?_push_of_some _ ho, rfl, n1, rfl⟩
      have f1 := PySem.F.sub_tuple_set; have f2 := PySem.F.sub_tuple_frozenset
      have f3 : (Value.type "tuple" == Value.type "dict") = false := by decide
      have ho1 := Heap.get?_push_of_some newS ho
      unfold Builtin.«set.__init__» noKeywords Builtin.Frozenset.updateFrom
      generalize hPI : pyIter = PI
      wp_walk
      rw [show newS.data = .set #[] 0 (.fresh 0 0 led) from by rw [← hob]]
      wp_walk
      subst hPI
      refine wpAny_pyIter_tuple hl1 ?_; refine wpAny_bind (wpAny_runValue ?_)
      have nI : l ≠ (s.heap.push newS).objs.size := by rw [szS]; exact Nat.ne_of_lt (Nat.lt_succ_of_lt lS)
      refine run_all (knd := knd) (ks := ks) ((Walks.tuple (show A.in1.in1.in1.handled = none by simp [quiet]) _ l nI xs).toS) (S := S) (by rw [szS]; simp only [List.mem_cons, List.not_mem_nil, or_false, not_or]; exact ⟨Nat.ne_of_lt (Nat.lt_succ_self _), Nat.ne_of_gt lS⟩) lk room val (xs.size - 0) 0 _ (by omega) (Nat.zero_le _) ⟨⟨_, Heap.get?_push_size _ rfl, rfl, rfl⟩, hl1.push _⟩ ?_ fun s' mv z => ?_
      · have at2 : ((s.heap.push newS).push { cls := .type "tuple_iterator", data := .fields #[.ref l, .int 0 0] }).get? S = some newS := Heap.get?_push_of_some _ atS
        have so : newS.SetObjOf knd (fun _ => false) 0 := by rw [← hob]; exact PyProof.Rows.setObjOf_fresh (knd := knd) led
        exact SetOf_congr (so.setOf at2 (by unfold scanBound; omega)) (fun _ => by simp) rfl
      · obtain ⟨h', g', d', tk', os'⟩ := s'
        obtain ⟨m1, m2, m3, m4, _⟩ := mv
        simp only at m1 m2 m3 m4 z
        subst m2 m3 m4
        show wpAny _ _ _ _ _ _
        refine wpAny_pure (show wpAny _ _ (ret Value.none) _ _ _ from wpAny_pure ⟨rfl, h', tk', rfl, z, fun b o lt e => m1 b o ?_ (Heap.get?_push_of_some _ (Heap.get?_push_of_some _ e))⟩)
        rw [szS]
        simp only [List.mem_cons, List.not_mem_nil, or_false, not_or]
        exact ⟨Nat.ne_of_lt lt, Nat.ne_of_lt (Nat.lt_succ_of_lt lt)⟩
  · match r2, hr2 with
    | .error e, hr2 => exact hr2
    | .ok .next, hr2 | .ok .brk, hr2 | .ok .cont, hr2 => exact hr2.elim
    | .ok (.ret _), ⟨e1, h', tk, e2, e3, e4⟩ =>
      subst e1 e2
      repeat (any_goals (first | assumption | wp_step))
      exact q h' tk e3 e4
end Xset
set_option Elab.async false
set_option linter.all false
set_option maxRecDepth 100000
set_option maxHeartbeats 4000000
set_option pp.maxSteps 400
set_option pp.deepTerms false
/-! Sets of things on the heap, of any kind whose hash and equality the model tells; how the search and the adding go. -/
namespace Xts
open PySem PySem.Spec PyProof.Rows L2
/-- things on the heap that a set may hold -/
structure Elt (P : Program) (w : World) (κ : Type) [DecidableEq κ] where
  is : Heap → κ → Addr → Prop
  hash : κ → Int
  draws : κ → Nat
  room : Around → Prop
  hashes : ∀ {A : Around} {E : Value → Shared → Prop} {s : Shared} {k : κ} {b : Addr} {Q : Int → Shared → Prop}, room A → is s.heap k b → Q (hash k) { s with toks := s.toks + draws k } → wpAny (model P w) A (pyHash (.ref b)) Q E s
  equals : ∀ {A : Around} {E : Value → Shared → Prop} {s : Shared} {x y : κ} {b c : Addr} {Q : Bool → Shared → Prop}, room A → is s.heap x b → is s.heap y c → Q (decide (x = y)) s → wpAny (model P w) A (eqBool (.ref b) (.ref c)) Q E s
  unseen : ∀ {A : Around} {E : Value → Shared → Prop} {s : Shared} {k : κ} {b : Addr} {ys : List Value} {Q : Bool → Shared → Prop}, is s.heap k b → (∀ y ∈ ys, ∃ k' c, y = Value.ref c ∧ is s.heap k' c) → Q false s → wpAny (model P w) A (searchCouldBeSeen (.ref b) ys) Q E s
  byVal : ∀ {A : Around} {E : Value → Shared → Prop} {s : Shared} {k : κ} {b : Addr} {Q : Bool → Shared → Prop}, is s.heap k b → (∀ c, Q c s) → wpAny (model P w) A (hashByValue 8 (.ref b)) Q E s
  seq : ∀ {h : Heap} {k : κ} {b : Addr}, is h k b → ∃ o items n, h.get? b = some o ∧ o.data = .seq items n
  stays : ∀ {h h' : Heap} {k : κ} {b : Addr}, is h k b → (∀ o, h.get? b = some o → h'.get? b = some o) → is h' k b
section
variable {P : Program} {w : World} {κ : Type} [DecidableEq κ] {e : Elt P w κ}
def rowE (e : Elt P w κ) (p : Addr × κ) : Int × Value := (e.hash p.2, .ref p.1)
def hsE (e : Elt P w κ) (L : List (Addr × κ)) : List Int := L.map fun p => e.hash p.2
/-- the set at a holds just these, in the table's order -/
structure Holds (e : Elt P w κ) (h : Heap) (a : Addr) (L : List (Addr × κ)) (es : Array (Int × Value)) (ep : Nat) (t : SetTable) : Prop where
  at_ : ∃ o, h.get? a = some o ∧ o.ExactSet ∧ o.data = .set es ep t
  rows : es.toList = L.map (rowE e)
  tab : TabOk t (hsE e L)
  nd : (L.map (·.2)).Nodup
  mem : ∀ p ∈ L, e.is h p.2 p.1
  room : L.length * 5 < t.mask * 3
  few : L.length < 64
theorem rows_size {es : Array (Int × Value)} {L : List (Addr × κ)} (r : es.toList = L.map (rowE e)) : es.size = L.length := by
  have := congrArg List.length r
  rwa [Array.length_toList, List.length_map] at this
theorem rows_at {es : Array (Int × Value)} {L : List (Addr × κ)} (r : es.toList = L.map (rowE e)) {i : Nat} {p : Addr × κ} (h : L[i]? = some p) : es[i]? = some (e.hash p.2, .ref p.1) := by
  rw [← Array.getElem?_toList, r, List.getElem?_map, h]
  rfl
theorem hsE_len (L : List (Addr × κ)) : (hsE e L).length = L.length := List.length_map ..
theorem fits_of {t : SetTable} {n : Nat} (d : t.dummies = #[]) (h1 : t.place.size = n) (h2 : n ≤ t.mask) : t.fits n = true := by
  unfold SetTable.fits SetTable.fill
  rw [d, Bool.and_eq_true, beq_iff_eq, decide_eq_true_eq]
  show t.place.size = n ∧ t.place.size + 0 ≤ t.mask
  omega
/-- where the search stands at its c-th step -/
abbrev stp (m : Nat) (h : Int) (c : Nat) : SetTable.Probe := nth m (runAt m (SetTable.bits h % (m + 1)) (SetTable.bits h)) c
theorem nth_dm (m : Nat) : ∀ (n : Nat) (p : SetTable.Probe), p.dummy = none → (nth m p n).dummy = none
  | 0, _, h => h
  | n + 1, p, h => nth_dm m n (adv m p) (by unfold adv; split <;> exact h)
theorem stp_dm (m : Nat) (h : Int) (c : Nat) : (stp m h c).dummy = none := nth_dm m c _ rfl
theorem stp_on (m : Nat) (h : Int) (c q : Nat) : nth m (stp m h c) q = stp m h (c + q) := (nth_add m c _ q).symm
section
variable {A : Around} {E : Value → Shared → Prop} {s : Shared} {a : Addr} {L : List (Addr × κ)} {es : Array (Int × Value)} {ep : Nat} {t : SetTable}
theorem Holds.fits (R : Holds e s.heap a L es ep t) : t.fits es.size = true := by
  have h1 := R.tab.sz
  rw [hsE_len] at h1
  have h3 := R.room
  rw [rows_size R.rows]
  exact fits_of R.tab.dm h1 (by omega)
theorem Holds.whole (R : Holds e s.heap a L es ep t) : ¬ t.gaveWay = true := by
  unfold SetTable.gaveWay
  rw [mask_odd R.tab.mok]
  decide
/-- the search from its c-th step on, up to the first empty place, its K-th -/
theorem look (R : Holds e s.heap a L es ep t) {x : Addr} {k : κ} (hx : e.is s.heap k x) (hu : e.room A) {K : Nat} (few : K < 10 * SetTable.turns t.mask)
    (hK : way t.mask (e.hash k) K ∉ t.place.toList) (hB : ∀ c, c < K → way t.mask (e.hash k) c ∈ t.place.toList) {Q : SetFound → Shared → Prop}
    (yes : k ∈ L.map (·.2) → Q (.there none) s) (no : k ∉ L.map (·.2) → Q (.free (way t.mask (e.hash k) K) false) s) :
    ∀ (f c : Nat) (stand : Option SetTable.Probe), stand.getD (t.probeStart (e.hash k)) = stp t.mask (e.hash k) c → c ≤ K → K - c < f →
      (∀ (i : Nat) p, L[i]? = some p → p.2 = k → ∃ c', c ≤ c' ∧ c' < K ∧ t.place.toList[i]? = some (way t.mask (e.hash k) c')) →
      wpAny (model P w) A (setSearchFrom a (.ref x) (e.hash k) true f stand) Q E s := by
  obtain ⟨o, ho, _, hd⟩ := R.at_
  have hashAt : ∀ (i : Nat) (p : Addr × κ), L[i]? = some p → (es[i]?.map (·.1)).getD 0 = e.hash p.2 := fun i p hp => by
    rw [rows_at R.rows hp]
    rfl
  intro f
  induction f with
  | zero => intro c _ _ _ hf; exact absurd hf (Nat.not_lt_zero _)
  | succ f ih =>
    intro c stand hst hc hf ahead
    have hj : ∀ q, (nth t.mask (stp t.mask (e.hash k) c) q).j = way t.mask (e.hash k) (c + q) := fun q => congrArg SetTable.Probe.j (stp_on _ _ c q)
    have cK : c + (K - c) = K := by omega
    have seen := go_spec t R.tab.ris R.tab.dm (fun i => (es[i]?.map (·.1)).getD 0) (e.hash k) (10 * SetTable.turns t.mask) (K - c) (stp t.mask (e.hash k) c) (stp_dm _ _ _) (by omega)
      (fun q hq => by rw [hj]; exact hB _ (by omega)) (by rw [hj, cK]; exact hK)
    rw [setSearchFrom_succ]
    refine wpAny_bind (wpAny_setState_of ho hd R.fits ?_)
    dsimp only
    refine wp_if_neg R.whole ?_
    try refine wpAny_bind (wpAny_pure ?_)
    rcases seen with ⟨q, i, hq, hi, _, none_yet, go⟩ | ⟨none_at_all, go⟩
    · rw [hj] at hi go
      rw [stp_on] at go
      have pr : t.probe (fun i => (es[i]?.map (·.1)).getD 0) (e.hash k) (stand.getD (t.probeStart (e.hash k))) = some (.candidate (way t.mask (e.hash k) (c + q)) i (stp t.mask (e.hash k) (c + (q + 1)))) := by
        rw [hst]
        exact go
      rw [pr]
      dsimp only
      have il : i < L.length := by
        have h1 := (List.getElem?_eq_some_iff.mp hi).1
        have h2 := R.tab.sz
        rw [hsE_len] at h2
        rw [Array.length_toList] at h1
        omega
      obtain ⟨p, hp⟩ : ∃ p, L[i]? = some p := ⟨_, List.getElem?_eq_getElem il⟩
      have pm := List.mem_of_getElem? hp
      have live : t.slot (way t.mask (e.hash k) (c + q)) = .live i := slot_live R.tab.ris hi
      have rest : wpAny (model P w) A (searchRest a (.ref x) (e.hash k) true f es t (way t.mask (e.hash k) (c + q)) i (stp t.mask (e.hash k) (c + (q + 1)))) Q E s := by
        unfold searchRest
        rw [rows_at R.rows hp]
        dsimp only
        refine wpAny_bind (wpAny_holding (e.equals hu (R.mem p pm) hx ?_))
        refine wpAny_bind (wpAny_setState_of ho hd R.fits ?_)
        dsimp only
        by_cases same : p.2 = k
        · exact wp_if_pos (by simp [same]) (wpAny_pure (yes (List.mem_map.mpr ⟨p, pm, same⟩)))
        · refine wp_if_neg (by simp [same]) ?_
          try refine wpAny_bind (wpAny_pure ?_)
          rw [sameMem]
          dsimp only
          simp only [if_true, live, rows_at R.rows hp]
          refine wpAny_bind (wpAny_isSame_ref_self (wpAny_bind (wpAny_pure ?_)))
          simp only [if_true]
          refine wp_if_neg (by simp [same]) ?_
          refine ih (c + (q + 1)) _ rfl (by omega) (by omega) fun i0 p0 h0 k0 => ?_
          obtain ⟨c', a1, a2, a3⟩ := ahead i0 p0 h0 k0
          refine ⟨c', Classical.byContradiction fun z => ?_, a2, a3⟩
          rcases Nat.lt_or_eq_of_le (show c' ≤ c + q by omega) with y | y
          · exact none_yet (c' - c) i0 (by omega) (by rw [hj, show c + (c' - c) = c' by omega]; exact a3) ((hashAt i0 p0 h0).trans (congrArg e.hash k0))
          · rw [y] at a3
            have l0 := slot_live R.tab.ris a3
            rw [live] at l0
            injection l0 with l0
            rw [← l0, hp] at h0
            cases h0
            exact same k0
      by_cases hl : t.led = true
      · refine wp_if_neg (by simp [hl]) ?_
        try refine wpAny_bind (wpAny_pure ?_)
        exact rest
      · refine wp_if_pos (by simp [hl]) ?_
        refine wpAny_bind (e.unseen hx (fun y hy => ?_) ?_)
        · obtain ⟨r, hr, rfl⟩ := List.mem_map.mp hy
          have hr1 : r ∈ es.toList := by
            have : r ∈ es ∧ r.1 = e.hash k := by simpa using hr
            simpa using this.1
          rw [R.rows] at hr1
          obtain ⟨p2, hp2, rfl⟩ := List.mem_map.mp hr1
          exact ⟨p2.2, p2.1, rfl, R.mem p2 hp2⟩
        · refine wp_if_neg (by decide) ?_
          try refine wpAny_bind (wpAny_pure ?_)
          exact rest
    · rw [hj, cK] at go
      have pr : t.probe (fun i => (es[i]?.map (·.1)).getD 0) (e.hash k) (stand.getD (t.probeStart (e.hash k))) = some (.empty (way t.mask (e.hash k) K) none) := by
        rw [hst]
        exact go
      rw [pr]
      dsimp only
      refine wpAny_pure (no fun hm => ?_)
      obtain ⟨p0, h0, k0⟩ := List.mem_map.mp hm
      obtain ⟨i0, e0⟩ := List.getElem?_of_mem h0
      obtain ⟨c', a1, a2, a3⟩ := ahead i0 p0 e0 k0
      exact none_at_all (c' - c) i0 (by omega) (by rw [hj, show c + (c' - c) = c' by omega]; exact a3) ((hashAt i0 p0 e0).trans (congrArg e.hash k0))
theorem look_all (R : Holds e s.heap a L es ep t) {x : Addr} {k : κ} (hx : e.is s.heap k x) (hu : e.room A) {Q : SetFound → Shared → Prop} (yes : k ∈ L.map (·.2) → Q (.there none) s)
    (no : ∀ K, k ∉ L.map (·.2) → way t.mask (e.hash k) K ∉ t.place.toList → (∀ c, c < K → way t.mask (e.hash k) c ∈ t.place.toList) → Q (.free (way t.mask (e.hash k) K) false) s) :
    wpAny (model P w) A (setSearch a (.ref x) (e.hash k) true) Q E s := by
  have room := R.room
  obtain ⟨K, few, hK, hB⟩ := R.tab.first (by rw [hsE_len]; omega) (e.hash k)
  have small : K < 100000 := by
    have : SetTable.turns t.mask ≤ 142 := by
      unfold SetTable.turns
      rcases R.tab.mok with z | z | z <;> omega
    omega
  unfold setSearch
  refine look R hx hu few hK hB yes (fun n => no K n hK hB) 100000 0 none rfl (Nat.zero_le _) (by omega) fun i p hp hk => ?_
  have hi : (hsE e L)[i]? = some (e.hash k) := by
    unfold hsE
    rw [List.getElem?_map, hp, ← hk]
    rfl
  have il : i < t.place.toList.length := by
    have h1 := (List.getElem?_eq_some_iff.mp hi).1
    rw [Array.length_toList, R.tab.sz]
    exact h1
  obtain ⟨c, hc, z⟩ := R.tab.before hK hi (List.getElem?_eq_getElem il)
  exact ⟨c, Nat.zero_le _, hc, by rw [List.getElem?_eq_getElem il, z]⟩
end
end
end Xts
set_option Elab.async false
set_option linter.all false
set_option maxRecDepth 100000
set_option maxHeartbeats 4000000
set_option pp.maxSteps 400
set_option pp.deepTerms false
/-! Sets of things on the heap: the table laid anew, and the adding. -/
namespace Xts
open PySem PySem.Spec PyProof.Rows L2
section
variable {P : Program} {w : World} {κ : Type} [DecidableEq κ] {e : Elt P w κ}
theorem apart {h : Heap} {k : κ} {a b : Addr} {o : Obj} {es : Array (Int × Value)} {ep : Nat} {t : SetTable} (x : e.is h k b) (ho : h.get? a = some o) (hd : o.data = .set es ep t) : b ≠ a := fun z => by
  obtain ⟨o2, its, n, h2, d2⟩ := e.seq x
  rw [z, ho] at h2
  cases h2
  rw [hd] at d2
  cases d2
theorem is_but {h h' : Heap} {k : κ} {a b : Addr} {o : Obj} {es : Array (Int × Value)} {ep : Nat} {t : SetTable} (x : e.is h k b) (ho : h.get? a = some o) (hd : o.data = .set es ep t) (sb : Heap.SameBut a h h') : e.is h' k b :=
  e.stays x fun o2 h2 => (sb.2 b (apart x ho hd)).trans h2
/-- what the places of a list give, a list of its places in any order -/
theorem picked {es : Array (Int × Value)} {L : List (Addr × κ)} (r : es.toList = L.map (rowE e)) : ∀ l : List Nat, (∀ i ∈ l, i < L.length) →
    l.filterMap (fun i => es[i]?) = (l.filterMap fun i => L[i]?).map (rowE e) ∧ hsE e (l.filterMap fun i => L[i]?) = l.map fun i => (es.map (·.1)).getD i 0
  | [], _ => ⟨rfl, rfl⟩
  | i :: l, h => by
    have il := h i List.mem_cons_self
    obtain ⟨h1, h2⟩ := picked r l fun j hj => h j (List.mem_cons_of_mem _ hj)
    have eL : L[i]? = some L[i] := List.getElem?_eq_getElem il
    have eE := rows_at r eL
    have eH : (es.map (·.1)).getD i 0 = e.hash (L[i]).2 := by
      have : (es.map (·.1))[i]? = some (e.hash (L[i]).2) := by rw [Array.getElem?_map, eE]; rfl
      simp [Array.getD_eq_getD_getElem?, this]
    refine ⟨?_, ?_⟩
    · rw [List.filterMap_cons_some eE, List.filterMap_cons_some eL, List.map_cons, h1]
      rfl
    · rw [List.filterMap_cons_some eL, List.map_cons, ← h2, eH]
      rfl
theorem all_places {α : Type} (L : List α) : (List.range L.length).filterMap (fun i => L[i]?) = L := by
  have : ∀ n, n ≤ L.length → (List.range n).filterMap (fun i => L[i]?) = L.take n := by
    intro n
    induction n with
    | zero => intro _; rfl
    | succ n ih =>
      intro h
      rw [List.range_succ, List.filterMap_append, ih (Nat.le_of_lt h), List.take_add_one, List.getElem?_eq_getElem h, List.filterMap_cons_some (List.getElem?_eq_getElem h)]
      rfl
  rw [this _ (Nat.le_refl _), List.take_length]
section
variable {A : Around} {E : Value → Shared → Prop} {s : Shared} {a : Addr} {L : List (Addr × κ)} {es : Array (Int × Value)} {ep : Nat} {t : SetTable}
/-- a larger table -/
theorem relaid {o : Obj} (ho : s.heap.get? a = some o) (ex : o.ExactSet) (hd : o.data = .set es ep t) (rows : es.toList = L.map (rowE e)) (sz : t.place.size = L.length) (dm : t.dummies = #[]) (fit : L.length ≤ t.mask) (nd : (L.map (·.2)).Nodup) (mem : ∀ p ∈ L, e.is s.heap p.2 p.1)
    (few : L.length < 64) {wanted M : Nat} (hw : SetTable.sizeAbove wanted - 1 = M) (hM : MaskOk M) (w128 : SetTable.sizeAbove wanted ≤ 128) (room : L.length * 5 < M * 3) {Q : Unit → Shared → Prop}
    (q : ∀ h' L' es' ep' t', Heap.SameBut a s.heap h' → Holds e h' a L' es' ep' t' → L'.Perm L → Q () { s with heap := h' }) : wpAny (model P w) A (setRelay a wanted) Q E s := by
  have sE := rows_size rows
  have sM : (es.map (·.1)).size = L.length := by rw [Array.size_map, sE]
  obtain ⟨t', order, eq, perm, tab, em, _, _, _⟩ := relaid_ok t (hs := es.map (·.1)) (wanted := wanted) hw hM (by rw [sM]; omega)
  rw [sM] at perm
  obtain ⟨p1, p2⟩ := picked rows order.toList fun i hi => List.mem_range.mp (perm.mem_iff.mp hi)
  rw [← p2] at tab
  have pL : (order.toList.filterMap fun i => L[i]?).Perm L := by
    have := perm.filterMap fun i => L[i]?
    rwa [all_places] at this
  have r1 : (order.filterMap (es[·]?)).toList = (order.toList.filterMap fun i => L[i]?).map (rowE e) := by
    rw [← p1]
    first | exact Array.toList_filterMap | simp
  have s2 : (order.filterMap (es[·]?)).size = es.size := by rw [rows_size r1, pL.length_eq, sE]
  rw [setRelay_eq]
  refine wpAny_bind (wpAny_setState_of ho hd (by rw [sE]; exact fits_of dm sz fit) ?_)
  dsimp only
  refine wp_if_neg (by rw [sizeLine_eq]; omega) ?_
  try refine wpAny_bind (wpAny_pure ?_)
  rw [eq]
  dsimp only
  refine wpAny_bind ?_
  refine wp_if_neg (by rw [s2]; simp) ?_
  try refine wpAny_bind (wpAny_pure ?_)
  refine wpAny_pure ?_
  dsimp only
  refine wpAny_storeSet_of ho hd ?_ (by rw [s2, sE, sizeLine_eq]; omega)
  have sb : Heap.SameBut a s.heap (s.heap.update a (Obj.putSet (order.filterMap (es[·]?)) t')) := Heap.SameBut.update ..
  exact q _ _ _ (ep + 1) t' sb ⟨⟨_, store_at ho hd, ⟨ex.1, ex.2.1, ex.2.2⟩, rfl⟩, r1, tab, (pL.map (·.2)).nodup_iff.mpr nd, fun p hp => is_but (mem p (pL.mem_iff.mp hp)) ho hd sb, by rw [pL.length_eq, em]; exact room, by rw [pL.length_eq]; exact few⟩ pL
theorem tab_as {t t' : SetTable} {hs : List Int} (f1 : t'.place = t.place) (f2 : t'.dummies = t.dummies) (f3 : t'.mask = t.mask) (T : TabOk t hs) : TabOk t' hs :=
  ⟨by rw [f1]; exact T.ris, by rw [f2]; exact T.dm, by rw [f1]; exact T.sz, by rw [f3]; exact T.mok, by rw [f1, f3]; exact T.bd, by rw [f1, f3]; exact T.reach⟩
/-- one put in -/
theorem added (R : Holds e s.heap a L es ep t) {x : Addr} {k : κ} (hx : e.is s.heap k x) (hu : e.room A) (few : L.length + 1 < 64) {Q : Bool → Shared → Prop}
    (q : ∀ c h' L' es' ep' t', Heap.SameBut a s.heap h' → Holds e h' a L' es' ep' t' → (k ∈ L.map (·.2) ∧ L' = L ∨ k ∉ L.map (·.2) ∧ L'.Perm ((x, k) :: L)) → Q c { s with heap := h' }) :
    wpAny (model P w) A (setAddHashed a (.ref x) (e.hash k)) Q E s := by
  obtain ⟨o, ho, ex, hd⟩ := R.at_
  have sE := rows_size R.rows
  have room := R.room
  unfold setAddHashed
  refine wpAny_holding ?_
  rw [show (100000 : Nat) = 99999 + 1 from rfl, setAddHashedIn_succ]
  refine wpAny_bind (wpAny_setState_of ho hd R.fits ?_)
  dsimp only
  refine wp_if_neg (by simp [byScan, Value.scannable]) ?_
  try refine wpAny_bind (wpAny_pure ?_)
  refine wpAny_bind (look_all R hx hu (fun m => ?_) fun K m hK hB => ?_)
  · dsimp only
    exact wpAny_pure (q false s.heap L es ep t (Heap.SameBut.refl a s.heap) R (.inl ⟨m, rfl⟩))
  dsimp only
  refine wpAny_bind (wpAny_setState_of ho hd R.fits ?_)
  dsimp only
  obtain ⟨q1, q2, tab, em, _, _, _, _, efl⟩ := R.tab.put hK hB
  rw [hsE_len] at efl
  generalize hpt : t.put (way t.mask (e.hash k) K) = pt at q1 tab em efl ⊢
  obtain ⟨t1, at1⟩ := pt
  dsimp only at q1 tab em efl ⊢
  subst q1
  generalize SetTable.below t.place (way t.mask (e.hash k) K) = n at q2 tab ⊢
  have tail : ∀ c : Bool, wpAny (model P w) A (do
      storeSet a (SetTable.insertAt es n (e.hash k, Value.ref x)) (if c = true then t1 else { t1 with plain := false })
      if (!false && (if c = true then t1 else { t1 with plain := false }).tooFull) = true then do
        setRelay a (SetTable.grown (es.size + 1))
        pure true
      else pure true) Q E s := fun c => ?tail
  case tail =>
    obtain ⟨t2, ht2⟩ : ∃ t2, t2 = (if c = true then t1 else { t1 with plain := false }) := ⟨_, rfl⟩
    rw [← ht2]
    have f1 : t2.place = t1.place := by rw [ht2]; cases c <;> rfl
    have f2 : t2.dummies = t1.dummies := by rw [ht2]; cases c <;> rfl
    have f3 : t2.mask = t1.mask := by rw [ht2]; cases c <;> rfl
    have f4 : t2.fill = t1.fill := by rw [ht2]; cases c <;> rfl
    clear ht2
    obtain ⟨L1, hL1⟩ : ∃ L1, L1 = L.take n ++ (x, k) :: L.drop n := ⟨_, rfl⟩
    have r1 : (SetTable.insertAt es n (e.hash k, Value.ref x)).toList = L1.map (rowE e) := by
      rw [SetTable.toList_insertAt, R.rows, hL1, List.map_append, List.map_cons, List.map_take, List.map_drop]
      rfl
    have pm : L1.Perm ((x, k) :: L) := by rw [hL1]; exact put_perm L n (x, k)
    have l1 : L1.length = L.length + 1 := pm.length_eq
    have tab1 : TabOk t2 (hsE e L1) := by
      refine tab_as f1 f2 f3 ?_
      have : hsE e L1 = (hsE e L).take n ++ e.hash k :: (hsE e L).drop n := by
        unfold hsE
        rw [hL1, List.map_append, List.map_cons, List.map_take, List.map_drop]
      rw [this]
      exact tab
    have nd1 : (L1.map (·.2)).Nodup := by
      refine (pm.map (·.2)).nodup_iff.mpr ?_
      rw [List.map_cons]
      exact List.nodup_cons.mpr ⟨m, R.nd⟩
    generalize SetTable.insertAt es n (e.hash k, Value.ref x) = es1 at r1 ⊢
    have sE1 := rows_size r1
    clear hL1 tab
    refine wpAny_bind (wpAny_storeSet_of ho hd ?_ (by rw [sE1, l1, sizeLine_eq]; omega))
    have sb : Heap.SameBut a s.heap (s.heap.update a (Obj.putSet es1 t2)) := Heap.SameBut.update ..
    have ho1 := store_at (es' := es1) (t' := t2) ho hd
    generalize s.heap.update a (Obj.putSet es1 t2) = h1 at sb ho1 ⊢
    have mem1 : ∀ p ∈ L1, e.is h1 p.2 p.1 := fun p hp => (List.mem_cons.mp (pm.mem_iff.mp hp)).elim (fun z => by rw [z]; exact is_but hx ho hd sb) fun z => is_but (R.mem p z) ho hd sb
    have sz1 : t2.place.size = L1.length := by rw [tab1.sz, hsE_len]
    by_cases full : t2.tooFull = true
    · first
        | (refine wpAny_bind ?_; refine wp_if_pos (by simp [full]) ?_)
        | (refine wp_if_pos (by simp [full]) ?_; refine wpAny_bind ?_)
      have over : t2.mask * 3 ≤ (L.length + 1) * 5 := by
        unfold SetTable.tooFull at full
        rwa [decide_eq_true_eq, f4, efl] at full
      rw [sE]
      have go : ∀ M, SetTable.sizeAbove (SetTable.grown (L.length + 1)) - 1 = M → MaskOk M → SetTable.sizeAbove (SetTable.grown (L.length + 1)) ≤ 128 → (L.length + 1) * 5 < M * 3 →
          wpAny (model P w) A (setRelay a (SetTable.grown (L.length + 1))) (fun _ s' => wpAny (model P w) A (pure true) Q E s') E { s with heap := h1 } := fun M g1 g2 g3 g4 => by
        refine relaid (s := { s with heap := h1 }) ho1 ⟨ex.1, ex.2.1, ex.2.2⟩ rfl r1 sz1 tab1.dm (by rw [l1, f3, em]; rcases R.tab.mok with z | z | z <;> omega) nd1 mem1 (by rw [l1]; exact few) g1 g2 g3 (by rw [l1]; exact g4) ?_
        intro h2 L2 es2 ep2 t2 sb2 R2 pm2
        exact wpAny_pure (q true h2 L2 es2 ep2 t2 (sb.trans sb2) R2 (.inr ⟨m, pm2.trans pm⟩))
      rw [f3, em] at over
      rcases R.tab.mok with z | z | z
      · obtain e4 : L.length = 4 := by omega
        exact go 31 (by rw [e4, size_20]) (.inr (.inl rfl)) (by rw [e4, size_20]; decide) (by omega)
      · obtain e18 : L.length = 18 := by omega
        exact go 127 (by rw [e18, size_76]) (.inr (.inr rfl)) (by rw [e18, size_76]; decide) (by omega)
      · omega
    · first
        | refine wp_if_neg (by simp [full]) ?_
        | (refine wpAny_bind ?_; refine wp_if_neg (by simp [full]) ?_; refine wpAny_pure ?_)
      refine wpAny_pure (q true h1 L1 es1 (ep + 1) t2 sb ⟨⟨_, ho1, ⟨ex.1, ex.2.1, ex.2.2⟩, rfl⟩, r1, tab1, nd1, mem1, ?_, by rw [l1]; exact few⟩ (.inr ⟨m, pm⟩))
      unfold SetTable.tooFull at full
      rw [decide_eq_true_eq, f4, efl] at full
      rw [l1]
      omega
  by_cases pl : t1.plain = true
  · exact wp_if_pos pl (wpAny_bind (e.byVal hx fun c => tail c))
  · exact wp_if_neg pl (wpAny_bind (wpAny_pure (tail true)))
end
end
end Xts
set_option Elab.async false
set_option linter.all false
set_option maxRecDepth 100000
set_option maxHeartbeats 8000000
set_option pp.maxSteps 400
set_option pp.deepTerms false
/-! set(a list or a tuple of things on the heap), and how many unlike ones there are. -/
namespace Xts
open PySem PySem.Spec PyProof.Rows L2
theorem cn_of {κ : Type} [DecidableEq κ] : ∀ {m l : List κ}, l.Nodup → (∀ k, k ∈ l ↔ k ∈ m) → l.length = Xset.cn m
  | [], l, _, h => by
    cases l with
    | nil => rfl
    | cons x r => exact absurd ((h x).mp List.mem_cons_self) (by simp)
  | x :: m, l, nd, h => by
    unfold Xset.cn
    by_cases c : x ∈ m
    · rw [if_pos c]
      exact cn_of nd fun k => (h k).trans ⟨fun z => (List.mem_cons.mp z).elim (fun y => by rw [y]; exact c) id, List.mem_cons_of_mem _⟩
    · rw [if_neg c]
      have xl : x ∈ l := (h x).mpr List.mem_cons_self
      have e := List.length_erase_of_mem xl
      have pos := List.length_pos_of_mem xl
      have := cn_of (m := m) (nd.erase x) fun k => by
        rw [nd.mem_erase_iff, h k, List.mem_cons]
        exact ⟨fun z => z.2.resolve_left z.1, fun z => ⟨fun y => c (by rw [← y]; exact z), .inr z⟩⟩
      omega
section
variable {P : Program} {w : World} {κ : Type} [DecidableEq κ] {e : Elt P w κ}
/-- the set has got what the first i of these are -/
def Up (e : Elt P w κ) (h : Heap) (S : Addr) (ks : List (Addr × κ)) (i : Nat) : Prop :=
  ∃ L es ep t, Holds e h S L es ep t ∧ (∀ p ∈ L, p ∈ ks) ∧ (∀ k, k ∈ L.map (·.2) ↔ k ∈ (ks.take i).map (·.2)) ∧ L.length ≤ i
theorem Up.move {h h' : Heap} {S : Addr} {ks : List (Addr × κ)} {i : Nat} (u : Up e h S ks i) (hS : ∀ o, h.get? S = some o → h'.get? S = some o) (hk : ∀ p ∈ ks, ∀ o, h.get? p.1 = some o → h'.get? p.1 = some o) : Up e h' S ks i := by
  obtain ⟨L, es, ep, t, R, sub, r⟩ := u
  obtain ⟨o, ho, r2⟩ := R.at_
  exact ⟨L, es, ep, t, ⟨⟨o, hS o ho, r2⟩, R.rows, R.tab, R.nd, fun p hp => e.stays (R.mem p hp) (hk p (sub p hp)), R.room, R.few⟩, sub, r⟩
theorem Up.fresh {h : Heap} {S : Addr} {ks : List (Addr × κ)} {led : Bool} (ho : h.get? S = some { cls := .type "set", dict := none, data := .set #[] 0 (.fresh 0 0 led) }) : Up e h S ks 0 :=
  ⟨[], #[], 0, .fresh 0 0 led, ⟨⟨_, ho, ⟨rfl, rfl, rfl⟩, rfl⟩, rfl, ⟨List.Pairwise.nil, rfl, rfl, .inl rfl, fun x hx => (by cases hx), fun i h j hi => (by simp [hsE] at hi)⟩, List.nodup_nil, fun p hp => (by cases hp), by show 0 * 5 < 7 * 3; decide, by show 0 < 64; decide⟩, fun p hp => (by cases hp), fun k => by simp, Nat.le_refl _⟩
variable {A : Around} {R : Result → Shared → Prop} {it : Addr} {fp wr : List Addr} {G : Array GenState → Array GenState → Prop} {n : Nat} {Pv : Nat → Value → Prop} {St : Nat → Shared → Prop}
theorem run_up (W : WalksS P w A.in1 it fp wr G n Pv St) {S : Addr} (nS : S ∉ fp) {ks : List (Addr × κ)} (lk : ks.length = n) (few : n < 64) (hu : e.room A.in1) (off : ∀ p ∈ ks, p.1 ∉ S :: wr) (val : ∀ i v, Pv i v → ∃ p, ks[i]? = some p ∧ v = .ref p.1) :
    ∀ (left i : Nat) (s : Shared), n - i = left → i ≤ n → St i s → (∀ p ∈ ks, e.is s.heap p.2 p.1) → Up e s.heap S ks i → (∀ s', Moved (S :: wr) G s s' → Up e s'.heap S ks n → R (.ok (.ret .none)) s') →
      codeAny (model P w) A (.builtin "set.update.loop" ⟨[.ref S, .ref it], []⟩) R s := by
  have nw : S ∉ wr := fun z => nS (W.sub _ z)
  have up : ∀ b ∈ wr, b ∈ S :: wr := fun b m => List.mem_cons_of_mem _ m
  have offw : ∀ p ∈ ks, p.1 ∉ wr := fun p hp z => off p hp (up _ z)
  have offS : ∀ p ∈ ks, p.1 ≠ S := fun p hp z => off p hp (by rw [z]; exact List.mem_cons_self)
  intro left
  induction left with
  | zero =>
    intro i s h0 le st al hs q
    obtain rfl : i = n := by omega
    refine codeAny_builtin PyProof.Rows.F.entry_set_update_loop (by
      rw [Around.under_plainId PyProof.Rows.F.plain_set_update_loop _]
      show wpAny _ A.in1 (pyNext (.ref it) >>= _) _ _ s
      exact wpAny_bind (W.done s _ _ st fun s' mv => by
        show wpAny _ A.in1 (ret Value.none) _ _ s'
        exact wpAny_pure (q s' (mv.mono up) (hs.move (fun o x => mv.heap S _ nw x) fun p hp o x => mv.heap _ _ (offw p hp) x))))
  | succ left ih =>
    intro i s h0 le st al hs q
    have lt : i < n := by omega
    refine codeAny_builtin PyProof.Rows.F.entry_set_update_loop ?_
    rw [Around.under_plainId PyProof.Rows.F.plain_set_update_loop _]
    show wpAny _ A.in1 (pyNext (.ref it) >>= _) _ _ s
    refine wpAny_bind (W.item i s _ _ lt st fun v s' pv st' mv => ?_)
    obtain ⟨p, hp, rfl⟩ := val i v pv
    have pk := List.mem_of_getElem? hp
    have al' : ∀ p ∈ ks, e.is s'.heap p.2 p.1 := fun p hp => e.stays (al p hp) fun o x => mv.heap _ _ (offw p hp) x
    obtain ⟨L, es, ep, t, R1, sub, iff_, len⟩ := hs.move (h' := s'.heap) (fun o x => mv.heap S _ nw x) fun p hp o x => mv.heap _ _ (offw p hp) x
    show wpAny _ A.in1 (holding [Value.ref p.1] (setAdd S (.ref p.1)) >>= _) _ _ s'
    refine wpAny_bind (wpAny_holding ?_)
    unfold setAdd
    refine wpAny_holding (wpAny_bind (e.hashes hu (al' p pk) ?_))
    refine added (s := { s' with toks := s'.toks + e.draws p.2 }) R1 (al' p pk) hu (by omega) fun c h' L' es' ep' t' sb R2 cs => ?_
    have tk : ks.take (i + 1) = ks.take i ++ [p] := by rw [List.take_add_one, hp]; rfl
    have new : Up e h' S ks (i + 1) := by
      refine ⟨L', es', ep', t', R2, ?_⟩
      rw [tk, List.map_append]
      rcases cs with ⟨m, rfl⟩ | ⟨m, pm⟩
      · refine ⟨sub, fun k => ?_, by omega⟩
        rw [List.mem_append, ← iff_ k]
        exact ⟨.inl, fun z => z.elim id fun y => by rw [List.mem_singleton.mp (show k ∈ [p.2] from y)]; exact m⟩
      · refine ⟨fun p2 hp2 => (List.mem_cons.mp (pm.mem_iff.mp hp2)).elim (fun z => by rw [z]; exact pk) (sub p2), fun k => ?_, by rw [pm.length_eq, List.length_cons]; omega⟩
        rw [(pm.map (·.2)).mem_iff, List.map_cons, List.mem_cons, List.mem_append, iff_ k]
        exact ⟨fun z => z.elim (fun y => .inr (by rw [y]; exact List.mem_singleton.mpr rfl)) .inl, fun z => z.elim .inr fun y => .inl (List.mem_singleton.mp (show k ∈ [p.2] from y))⟩
    refine wpAny_pure ⟨plainId_quiet PyProof.Rows.F.plain_set_update_loop _, ih (i + 1) _ (by omega) lt (W.frame _ s' _ _ st' (Nat.le_add_right _ _) fun b m o z => ?_) (fun p2 hp2 => e.stays (al' p2 hp2) fun o x => (sb.2 _ (offS p2 hp2)).trans x) new fun s2 mv2 z2 => ?_⟩
    · exact (sb.2 b (fun c => nS (by rw [← c]; exact m))).trans z
    · exact q s2 (Moved.trans W.gtrans ((mv.mono up).then_heap (Nat.le_add_right _ _) fun b o m z => (sb.2 b (fun c => m (by rw [c]; exact List.mem_cons_self))).trans z) mv2) z2
end
end Xts
set_option Elab.async false
set_option linter.all false
set_option maxRecDepth 100000
set_option maxHeartbeats 4000000
set_option pp.maxSteps 400
set_option pp.deepTerms false
/-! Tuples cut, put together, turned about, as lists, whatever the cases; a sign many times. -/
namespace Xtu
open PySem PySem.Spec PyProof.Rows L2
theorem same_upd {H : Hp} {p : Addr} {o : HO} (h : H p = none) : Same H (upd H p o) := fun b x e => by
  rw [upd_ne (ne_of_none e h)]
  exact e
section
variable {X : Cx}
def rSlU : V → Option Int → Option Int → Hp → VK → Prop := fun x lo hi H Q => ∃ a xs, x = .ref a ∧ H a = some (.tup xs) ∧ ∀ p H', L2.Same H H' → H' p = some (.tup (cutV xs lo hi)) → Q (.ref p) H'
theorem sl_tupU : SlR X rSlU := by
  intro pins s σ H x v vl vu lo hi sl Q I rx hs pl pu h
  obtain ⟨a, xs, rfl, e, q⟩ := h
  refine sl_tupA pins s σ H _ v vl vu lo hi sl Q I rx hs pl pu ⟨a, xs, rfl, SqT.of e, fun w => q a H (Same.refl H) ?_, fun _ p np => q p _ (same_upd np) upd_same⟩
  rw [e]
  unfold cutV
  rw [w.1, w.2, List.drop_zero, Nat.sub_zero, List.take_length]
def rCatU : R2 := fun x y H Q => ∃ a b xs ys, x = .ref a ∧ y = .ref b ∧ H a = some (.tup xs) ∧ H b = some (.tup ys) ∧ xs.length + ys.length ≤ sizeLine ∧ ∀ p H', L2.Same H H' → H' p = some (.tup (xs ++ ys)) → Q (.ref p) H'
theorem op_catU : OpR X (binaryOp .Add) rCatU := by
  intro pins s σ H x y v u Q I rx ry h
  obtain ⟨a, b, xs, ys, rfl, rfl, ea, eb, hz, q⟩ := h
  refine op_catA pins s σ H _ _ v u Q I rx ry ⟨a, b, xs, ys, rfl, rfl, SqT.of ea, SqT.of eb, hz, fun z => q b H (Same.refl H) ?_, fun _ z => q a H (Same.refl H) ?_, fun _ _ p np => q p _ (same_upd np) upd_same⟩
  · rw [z]; exact eb
  · rw [z, List.append_nil]; exact ea
end
section
variable {prog : Program} {w : World} {A : Around} {E : Value → Shared → Prop} {s : Shared}
theorem turnN {sl : Addr} {u : Tok} {n : Nat} {Q : Int × Int × Nat → Shared → Prop} (hs : s.heap.IsSliceOf sl .none .none (.int (-1) u)) (h : Q ((n : Int) - 1, -1, n) s) : wpAny (model prog w) A (Builtin.Slice.sliceApplied (.ref sl) (pure (n : Int))) Q E s := by
  obtain ⟨os, a1, a2, a3⟩ := id hs
  unfold Builtin.Slice.sliceApplied Builtin.Slice.sliceFields
  refine wpAny_bind (wpAny_bind (wpAny_field a1 a3 (x := .none) rfl (wpAny_bind (wpAny_field a1 a3 (x := .none) rfl (wpAny_bind (wpAny_field a1 a3 (x := .int (-1) u) rfl (wpAny_pure ?_)))))))
  refine wpAny_bind (slicePart_int ?_)
  show wpAny _ _ (if ((-1 : Int) == 0) = true then _ else _) _ _ s
  rw [if_neg (by decide)]
  have pl : Builtin.Slice.slicePlaces ((n : Int) - 1) (-1) (-1) = n := by
    unfold Builtin.Slice.slicePlaces
    have h1 : ¬ ((-1 : Int) > 0) := by decide
    simp only [h1, if_false, show (- -1 : Int) = 1 by decide, Int.ediv_one]
    split <;> omega
  refine wpAny_bind (slicePart_none (wpAny_bind (slicePart_none (wpAny_bind (wpAny_pure ?_)))))
  show wpAny _ _ (pure ((n : Int) - 1, (-1 : Int), Builtin.Slice.slicePlaces ((n : Int) - 1) (-1) (-1))) _ _ s
  rw [pl]
  exact wpAny_pure h
theorem fm_congr {α β : Type} {f g : α → Option β} : ∀ l : List α, (∀ m ∈ l, f m = g m) → l.filterMap f = l.filterMap g
  | [], _ => rfl
  | a :: r, h => by
    rw [List.filterMap_cons, List.filterMap_cons, h a List.mem_cons_self, fm_congr r fun m hm => h m (List.mem_cons_of_mem _ hm)]
theorem turn_all (xs : Array Value) : ((List.range xs.size).filterMap fun (m : Nat) => xs[((xs.size : Int) - 1 + (m : Int) * -1).toNat]?).toArray = xs.toList.reverse.toArray := by
  have e : ((List.range xs.size).filterMap fun (m : Nat) => xs[((xs.size : Int) - 1 + (m : Int) * -1).toNat]?) = ((List.range xs.size).map fun k => xs.size - 1 - k).filterMap (xs[·]?) := by
    rw [List.filterMap_map]
    refine fm_congr _ fun m hm => ?_
    have := List.mem_range.mp hm
    show xs[((xs.size : Int) - 1 + (m : Int) * -1).toNat]? = xs[xs.size - 1 - m]?
    congr 1
    omega
  rw [e, PySem.W.krv_range, List.filterMap_reverse, PySem.W.krv_all]
theorem itemN {t sl : Addr} {items : Array Value} {u : Tok} {Q : Value → Shared → Prop} (ht : IsTup s.heap t items) (hs : s.heap.IsSliceOf sl .none .none (.int (-1) u)) (hz : items.size ≤ sizeLine)
    (h : Q (.ref s.heap.objs.size) { s with heap := s.heap.push { cls := .type "tuple", data := .seq items.toList.reverse.toArray } }) : wpAny (model prog w) A (getItem (.ref t) (.ref sl)) Q E s := by
  have fits : sizeOk (.seq items.toList.reverse.toArray) := by
    show items.toList.reverse.toArray.size ≤ sizeLine
    rw [List.size_toArray, List.length_reverse, Array.length_toList]
    exact hz
  obtain ⟨os, a1, a2, a3⟩ := id hs
  have ty : s.TypeIs (.ref sl) "slice" := ⟨os, a1, a2⟩
  unfold getItem; try with_reducible refine wpAny_holding ?_
  (first | refine wpAny_bind (wpAny_pure ?_) | skip); refine wpAny_bind (wpAny_sequenceKey ht.typeIs (by decide) ?_)
  refine wpAny_bind (wpAny_callSpecial?_slot (name := Str.ofString "__getitem__") ht.typeIs PyProof.Rows.slot_tuple_getitem (wpAny_call_entry PyProof.Rows.slot_tuple_getitem ht.typeIs entry_tuple_getitem ?_ (args_tuple_getitem _ _)))
  show wpAny _ _ (Builtin.Tuple.tupleItemsOf (.ref t) >>= _) _ _ s; refine wpAny_bind (tupleItemsOf_ ht ?_)
  refine wpAny_bind (wpAny_typeOf ty ?_); rw [if_pos (by decide)]
  refine wpAny_bind (turnN hs ?_)
  show wpAny _ _ (if (((items.size : Int) - 1) == 0 && (-1 : Int) == 1 && (items.size == items.size)) = true then _ else _) _ _ s
  rw [if_neg (by simp), turn_all]
  (first
    | exact wpAny_bind (m := Builtin.Tuple.tupleExact _) (wpAny_newObj_type (wpAny_pure ⟨_, rfl, wpAny_pure h⟩) fits)
    | exact wpAny_bind (m := Builtin.Tuple.tupleExact _) (wpAny_newObj_type (wpAny_bind (wpAny_pure (wpAny_pure ⟨_, rfl, wpAny_pure h⟩))) fits)
    | exact wpAny_bind (wpAny_bind (m := Builtin.Tuple.tupleExact _) (wpAny_newObj_type (wpAny_pure (wpAny_pure ⟨_, rfl, wpAny_pure h⟩)) fits)))
end
section
variable {X : Cx}
def tRevN (K : PySem.W.Frag) (te : TE) : TE := fun σ H Q => te σ H fun x H1 => ∃ (a : Addr) (xs : List V), x = .ref a ∧ H1 a = some (.tup xs) ∧ ∀ p H', L2.Same H1 H' → H' p = some (.tup xs.reverse) → Q (.ref p) H'
theorem pe_revN {e : Expr} {te : TE} {k : Nat} {p1 p2 p3 pos : Pos} (he : PE X e te) : PE X (.Subscript e (.Slice none none (some (.UnaryOp .USub (.Constant (.int 1) k p1) p2)) p3) pos) (tRevN X.K te) := by
  refine ⟨fun pins s σ H Q I h => Subscript_ (thn (he.run pins s σ H _ I h) fun v s1 ⟨x, H1, I1, r1, a, xs, ex, hx, q⟩ => ?_)⟩
  subst ex; cases r1
  have hst : PO X (some (.UnaryOp .USub (.Constant (.int 1) k p1) p2)) (tPart (tUn (rU fun i => .int (-i)) (tC (.int 1)))) := po_some (pe_un un_neg pe_int)
  refine wpAny_Slice (thn (po_none.run pins s1 σ H1 (fun o G => o = none ∧ G = H1) I1 ⟨rfl, rfl⟩) fun vl s2 ⟨l, G, I2, pl, el, e2⟩ => ?_)
  subst el e2
  refine thn (po_none.run pins s2 σ G (fun o G2 => o = none ∧ G2 = G) I2 ⟨rfl, rfl⟩) fun vu s3 ⟨u, G2, I3, pu, eu, e3⟩ => ?_
  subst eu e3
  refine thn (hst.run pins s3 σ G2 (fun o G3 => o = some (-1) ∧ G3 = G2) I3 ⟨1, rfl, -1, rfl, rfl, rfl⟩) fun vs s4 ⟨o, G3, I4, ps, eo, e4⟩ => ?_
  subst eo e4
  cases pl; cases pu
  cases ps with
  | int _ tk =>
  have I5 : Inv X pins σ G3 { s4 with heap := s4.heap.push { cls := .type "slice", data := .fields #[.none, .none, .int (-1) tk] } } := I4.kept (t' := s4.toks) fun b ob q => Heap.get?_push_of_some _ q
  obtain ⟨its, r, ht, hz⟩ := I5.tuple (SqT.of hx)
  have hlen := r.length
  show wpAny (model X.prog X.w) X.A (subscriptTail e (.Slice none none (some (.UnaryOp .USub (.Constant (.int 1) k p1) p2)) p3) (.ref a) (.ref s4.heap.objs.size)) (EP X pins σ Q) X.xe { s4 with heap := s4.heap.push { cls := .type "slice", data := .fields #[.none, .none, .int (-1) tk] } }
  refine tail_any (ops := [.ref a, .ref s4.heap.objs.size]) ht.typeIs PyProof.Rows.slot_tuple_getitem.lookup ?_ (by with_unfolding_all rfl)
  refine itemN ht (Heap.IsSliceOf.new _ _ _ _) (by rw [List.size_toArray]; omega) ?_
  have nw := I5.hok.fresh (Nat.le_refl _)
  refine ⟨.ref _, _, I5.laid (t' := s4.toks) (o := .tup xs.reverse) (fun b ob q => Heap.get?_push_of_some _ q) (Nat.le_refl _) ?_, rfl, q _ _ (same_upd nw) upd_same⟩
  exact ⟨by rw [List.length_reverse]; exact hz, _, r.reverse, IsTup.new _ _⟩
/-- a list of a tuple's things, new -/
theorem cr_listT : CallR X (.type "list") (fun xs H Q => ∃ p ys, xs = [.ref p] ∧ SqT X.K H p ys ∧ ∀ l, H l = none → l ≠ sysModules → Q (.ref l) (upd H l (.lst ys))) := by
  intro pins s σ H xs us Q I r h
  obtain ⟨p, ys, rfl, hq, q⟩ := h
  obtain ⟨u, rfl, rx⟩ := vals1 r; cases rx
  obtain ⟨its, r', ⟨o, ho, hc, n, hd⟩, hz⟩ := I.tuple hq
  have hlen := r'.length
  exact call_list_seq p (.inr rfl) ho hc hd (fun h' c' kp e => ⟨.ref s.heap.objs.size, _, I.laid (t' := s.toks) kp (Nat.le_refl _) (show ObjOk X.prog X.w _ h' _ (.lst ys) from ⟨hz, its, c', r', e⟩), rfl, q _ (I.hok.fresh (Nat.le_refl _)) (Nat.ne_of_gt I.big)⟩) (by simp only [List.size_toArray]; omega)
end
section
variable {X : Cx}
/-- "x" * 41 -/
theorem op_x41 : OpR X (binaryOp .Mult) (fun x y H Q => x = .str "x" ∧ y = .int 41 ∧ ∀ z : Str, z.length = 41 → (∀ c ∈ z.cps.toList, c = 120) → Q (.str z) H) := by
  intro pins s σ H x y v u Q I rx ry h
  obtain ⟨rfl, rfl, q⟩ := h
  obtain ⟨t, rfl⟩ := rx
  obtain ⟨t2, rfl⟩ := ry
  refine PySem.P.mul_str (by decide) (fun _ _ => by decide +kernel) (fun _ _ => by decide +kernel) ⟨by decide +kernel, .str ⟨(List.replicate 41 ("x" : Str).cps).foldl (· ++ ·) #[]⟩, H, I.tok _, ⟨_, rfl⟩, q _ (by decide +kernel) (by decide +kernel)⟩
end
end Xtu
set_option Elab.async false
set_option linter.all false
set_option maxRecDepth 100000
set_option maxHeartbeats 8000000
set_option pp.maxSteps 400
set_option pp.deepTerms false
/-! set(x) of things on the heap; tuples of numbers and texts; len(set(x)). -/
namespace Xts
open PySem PySem.Spec PyProof.Rows L2
/-- what set(x) comes to, x a list or a tuple of such things -/
theorem set_up {prog : Program} {w : World} {κ : Type} [DecidableEq κ] (e : Elt prog w κ) {A : Around} {E : Value → Shared → Prop} {s : Shared} {l : Addr} {xs : Array Value} {ks : List (Addr × κ)} {Q : Value → Shared → Prop}
    (quiet : A.handled = none) (src : s.heap.IsList l xs ∨ s.heap.IsTuple l xs) (lk : ks.length = xs.size) (few : xs.size < 64) (hu : e.room A.in1.in1.in1) (al : ∀ p ∈ ks, e.is s.heap p.2 p.1) (val : ∀ (i : Nat) (v : Value), xs[i]? = some v → ∃ p, ks[i]? = some p ∧ v = .ref p.1)
    (q : ∀ (h' : Heap) (tk : Nat), Up e h' s.heap.objs.size ks xs.size → (∀ b o, b < s.heap.objs.size → s.heap.get? b = some o → h'.get? b = some o) → Q (.ref s.heap.objs.size) { s with heap := h', toks := tk }) :
    wpAny (model prog w) A (call (.type "set") [.ref l]) Q E s := by
  obtain ⟨cc, tl, mro⟩ := PySem.F.called_set.mro; have g1 := PySem.F.called_set.made; have g2 := PySem.F.called_set.sub
  refine wpAny_call (codeAny_of_tree ?_); show wpAny _ _ (callAny (.type "set") _) _ _ _
  refine wpAny_pure ⟨Code.quiet_builtin _ (by decide +kernel), codeAny_builtin PySem.F.entry_type_call ?_⟩; rw [Around.under_plain (weight_type_call_type "set" [.ref l] []) rfl]
  have g3 := PySem.F.called_set.notType; have g4 := PySem.F.called_set.canCreate; have g5 := PySem.F.typeCall_set_1 (.ref l)
  repeat (any_goals (first | assumption | wp_step))
  have low : ∀ p ∈ ks, p.1 < s.heap.objs.size := fun p hp => let ⟨o, _, _, ho, _⟩ := e.seq (al p hp); Heap.lt_size ho
  generalize hp : s.heap.objs.size = S at q low ⊢
  refine codeAny_mono (code_set_new_1 (.ref l) (E := E) (Q₁ := fun ob s1 => ∃ led : Bool, ob = .ref S ∧ s1 = { s with heap := s.heap.push { cls := .type "set", dict := none, data := .set #[] 0 (.fresh 0 0 led) } }) fun led => ⟨led, by rw [hp], rfl⟩) fun r s1 hr => ?_
  match r, hr with
  | .error e, hr => exact hr
  | .ok .next, hr | .ok .brk, hr | .ok .cont, hr => exact hr.elim
  | .ok (.ret ob), ⟨led, e1, e2⟩ =>
  subst e1 e2
  generalize hob : ({ cls := .type "set", dict := none, data := .set #[] 0 (.fresh 0 0 led) } : Obj) = newS
  have atS : (s.heap.push newS).get? S = some newS := by rw [← hp]; exact Heap.get?_push_size _ (by rw [← hob]; rfl)
  have ty : Shared.TypeIs { s with heap := s.heap.push newS } (.ref S) "set" := ⟨_, atS, by rw [← hob]⟩
  have szS : (s.heap.push newS).objs.size = S + 1 := by rw [Heap.size_push, hp]
  have g6 := PySem.F.called_set.init.lookup; have g7 := PySem.F.called_set.init.bind (.ref S)
  repeat (any_goals (first | assumption | wp_step))
  -- what __init__ leaves
  refine codeAny_mono (codeAny_call_builtin (R := wants (fun r s2 => r = .none ∧ ∃ h' tk, s2 = { s with heap := h', toks := tk } ∧ Up e h' S ks xs.size ∧ ∀ b o, b < S → s.heap.get? b = some o → h'.get? b = some o) E) PySem.F.called_set.init.plain PySem.F.entry_set_init (check_set_init_1 ty ?_)) fun r2 s2 hr2 => ?_
  · rcases src with hl | hl
    · obtain ⟨⟨a1, a2, a3, a4⟩, ho, e1, n1, e2⟩ := hl
      simp only at e1 e2; subst e1 e2
      have lS : @LT.lt Nat _ l S := by rw [← hp]; exact Heap.lt_size ho
      have hl1 : (s.heap.push newS).IsList l xs := ⟨_, Heap.get?_push_of_some _ ho, rfl, n1, rfl⟩
      have f1 := PySem.F.sub_list_set; have f2 := PySem.F.sub_list_frozenset
      have f3 : (Value.type "list" == Value.type "dict") = false := by decide
      have ho1 := Heap.get?_push_of_some newS ho
      unfold Builtin.«set.__init__» noKeywords Builtin.Frozenset.updateFrom
      generalize hPI : pyIter = PI
      wp_walk
      rw [show newS.data = .set #[] 0 (.fresh 0 0 led) from by rw [← hob]]
      wp_walk
      subst hPI
      refine wpAny_pyIter_list hl1 ?_; refine wpAny_bind (wpAny_runValue ?_)
      have nI : l ≠ (s.heap.push newS).objs.size := by rw [szS]; exact Nat.ne_of_lt (Nat.lt_succ_of_lt lS)
      refine run_up (e := e) (ks := ks) ((Walks.list (show A.in1.in1.in1.handled = none by simp [quiet]) _ l nI xs).toS) (S := S) (by rw [szS]; simp only [List.mem_cons, List.not_mem_nil, or_false, not_or]; exact ⟨Nat.ne_of_lt (Nat.lt_succ_self _), Nat.ne_of_gt lS⟩) lk few hu (fun p hp2 => ?_) val (xs.size - 0) 0 _ (by omega) (Nat.zero_le _) ⟨⟨_, Heap.get?_push_size _ rfl, rfl, rfl⟩, hl1.push _⟩ (fun p hp2 => e.stays (al p hp2) fun o x => Heap.get?_push_of_some _ (Heap.get?_push_of_some _ x)) ?_ fun s' mv z => ?_
      · have := low p hp2
        rw [szS]
        simp only [List.mem_cons, List.not_mem_nil, or_false, not_or]
        exact ⟨Nat.ne_of_lt this, Nat.ne_of_lt (Nat.lt_succ_of_lt this)⟩
      · have at2 : ((s.heap.push newS).push { cls := .type "list_iterator", data := .fields #[.ref l, .int 0 0] }).get? S = some newS := Heap.get?_push_of_some _ atS
        exact Up.fresh (led := led) (by rw [hob]; exact at2)
      · obtain ⟨h', g', d', tk', os'⟩ := s'
        obtain ⟨m1, m2, m3, m4, _⟩ := mv
        simp only at m1 m2 m3 m4 z
        subst m2 m3 m4
        show wpAny _ _ _ _ _ _
        refine wpAny_pure (show wpAny _ _ (ret Value.none) _ _ _ from wpAny_pure ⟨rfl, h', tk', rfl, z, fun b o lt e => m1 b o ?_ (Heap.get?_push_of_some _ (Heap.get?_push_of_some _ e))⟩)
        rw [szS]
        simp only [List.mem_cons, List.not_mem_nil, or_false, not_or]
        exact ⟨Nat.ne_of_lt lt, Nat.ne_of_lt (Nat.lt_succ_of_lt lt)⟩
    · obtain ⟨⟨a1, a2, a3, a4⟩, ho, e1, n1, e2⟩ := hl
      simp only at e1 e2; subst e1 e2
      have lS : @LT.lt Nat _ l S := by rw [← hp]; exact Heap.lt_size ho
      have hl1 : (s.heap.push newS).IsTuple l xs := ⟨_, Heap.get?_push_of_some _ ho, rfl, n1, rfl⟩
      have f1 := PySem.F.sub_tuple_set; have f2 := PySem.F.sub_tuple_frozenset
      have f3 : (Value.type "tuple" == Value.type "dict") = false := by decide
      have ho1 := Heap.get?_push_of_some newS ho
      unfold Builtin.«set.__init__» noKeywords Builtin.Frozenset.updateFrom
      generalize hPI : pyIter = PI
      wp_walk
      rw [show newS.data = .set #[] 0 (.fresh 0 0 led) from by rw [← hob]]
      wp_walk
      subst hPI
      refine wpAny_pyIter_tuple hl1 ?_; refine wpAny_bind (wpAny_runValue ?_)
      have nI : l ≠ (s.heap.push newS).objs.size := by rw [szS]; exact Nat.ne_of_lt (Nat.lt_succ_of_lt lS)
      refine run_up (e := e) (ks := ks) ((Walks.tuple (show A.in1.in1.in1.handled = none by simp [quiet]) _ l nI xs).toS) (S := S) (by rw [szS]; simp only [List.mem_cons, List.not_mem_nil, or_false, not_or]; exact ⟨Nat.ne_of_lt (Nat.lt_succ_self _), Nat.ne_of_gt lS⟩) lk few hu (fun p hp2 => ?_) val (xs.size - 0) 0 _ (by omega) (Nat.zero_le _) ⟨⟨_, Heap.get?_push_size _ rfl, rfl, rfl⟩, hl1.push _⟩ (fun p hp2 => e.stays (al p hp2) fun o x => Heap.get?_push_of_some _ (Heap.get?_push_of_some _ x)) ?_ fun s' mv z => ?_
      · have := low p hp2
        rw [szS]
        simp only [List.mem_cons, List.not_mem_nil, or_false, not_or]
        exact ⟨Nat.ne_of_lt this, Nat.ne_of_lt (Nat.lt_succ_of_lt this)⟩
      · have at2 : ((s.heap.push newS).push { cls := .type "tuple_iterator", data := .fields #[.ref l, .int 0 0] }).get? S = some newS := Heap.get?_push_of_some _ atS
        exact Up.fresh (led := led) (by rw [hob]; exact at2)
      · obtain ⟨h', g', d', tk', os'⟩ := s'
        obtain ⟨m1, m2, m3, m4, _⟩ := mv
        simp only at m1 m2 m3 m4 z
        subst m2 m3 m4
        show wpAny _ _ _ _ _ _
        refine wpAny_pure (show wpAny _ _ (ret Value.none) _ _ _ from wpAny_pure ⟨rfl, h', tk', rfl, z, fun b o lt e => m1 b o ?_ (Heap.get?_push_of_some _ (Heap.get?_push_of_some _ e))⟩)
        rw [szS]
        simp only [List.mem_cons, List.not_mem_nil, or_false, not_or]
        exact ⟨Nat.ne_of_lt lt, Nat.ne_of_lt (Nat.lt_succ_of_lt lt)⟩
  · match r2, hr2 with
    | .error e, hr2 => exact hr2
    | .ok .next, hr2 | .ok .brk, hr2 | .ok .cont, hr2 => exact hr2.elim
    | .ok (.ret _), ⟨e1, h', tk, e2, e3, e4⟩ =>
      subst e1 e2
      repeat (any_goals (first | assumption | wp_step))
      exact q h' tk e3 e4
end Xts
set_option Elab.async false
set_option linter.all false
set_option maxRecDepth 100000
set_option maxHeartbeats 4000000
set_option pp.maxSteps 400
set_option pp.deepTerms false
/-! Tuples of numbers and texts as things that a set may hold; len(set(x)) of a list or tuple of such. -/
namespace Xts
open PySem PySem.Spec PyProof.Rows L2
section
variable {P : Program} {w : World} {A : Around} {E : Value → Shared → Prop} {s : Shared}
def Flat (v : Value) : Prop := (∃ i t, v = .int i t) ∨ ∃ x t, v = .str x t
theorem flat_all {k : List Key} {vs : List Value} (h : ItemsAre (mixKind P w) k vs) : ∀ v ∈ vs, Flat v := by
  induction h with
  | nil => intro v hv; cases hv
  | cons h1 _ ih =>
    intro v hv
    rcases List.mem_cons.mp hv with z | z
    · rw [z]
      rcases keyIs_shape h1 with ⟨i, t, _, e⟩ | ⟨x, t, _, e⟩
      · exact .inl ⟨i, t, e⟩
      · exact .inr ⟨x, t, e⟩
    · exact ih v z
theorem flat_cls {v : Value} (h : Flat v) (n : Nat) : ofAClassStatement n v = pure false := by
  rcases h with ⟨i, t, rfl⟩ | ⟨x, t, rfl⟩ <;> cases n <;> rfl
theorem flat_val {v : Value} (h : Flat v) (n : Nat) : ∃ c : Bool, hashByValue n v = pure c := by
  rcases h with ⟨i, t, rfl⟩ | ⟨x, t, rfl⟩
  · exact ⟨true, by cases n <;> rfl⟩
  · exact ⟨false, by cases n <;> rfl⟩
theorem tup_cls {k : List Key} {b : Addr} {Q : Bool → Shared → Prop} (hk : IsTupleKey (mixKind P w) s.heap k b) (q : Q false s) : wpAny (model P w) A (ofAClassStatement 8 (.ref b)) Q E s := by
  have hT := IsTupleKey.typeIs hk
  obtain ⟨o, items, n, ho, _, hd, hi⟩ := hk
  unfold ofAClassStatement
  refine wpAny_bind (wpAny_typeOf hT ?_)
  dsimp only
  simp only [show (("tuple" : String) == "tuple") = true by decide, if_true, Bool.not_true, Bool.false_eq_true, if_false]
  try refine wpAny_bind (wpAny_pure ?_)
  try simp only [Bool.not_true, Bool.false_eq_true, if_false]
  refine wpAny_bind (wpAny_seqItems ho hd ?_)
  dsimp only
  refine wpAny_bind ?_
  show wpAny _ _ (forIn items _ _) _ _ s
  rw [← Array.forIn_toList]
  refine wpAny_forIn_list _ (fun rest r s' => r.1 = none ∧ s' = s ∧ ∀ v ∈ rest, Flat v) _ ?_ ?_ _ _ ⟨rfl, rfl, flat_all hi⟩
  · rintro v rest r s' ⟨hr, rfl, al⟩
    rw [flat_cls (al v List.mem_cons_self)]
    refine wpAny_bind (wpAny_pure ?_)
    simp only [Bool.false_eq_true, if_false]
    exact wpAny_pure ⟨rfl, rfl, fun u hu => al u (List.mem_cons_of_mem _ hu)⟩
  · rintro ⟨r1, r2⟩ s' ⟨hr, rfl, _⟩
    simp only at hr
    subst hr
    exact wpAny_pure q
theorem tup_val {k : List Key} {b : Addr} {Q : Bool → Shared → Prop} (hk : IsTupleKey (mixKind P w) s.heap k b) (q : ∀ c, Q c s) : wpAny (model P w) A (hashByValue 8 (.ref b)) Q E s := by
  have hT := IsTupleKey.typeIs hk
  obtain ⟨o, items, n, ho, _, hd, hi⟩ := hk
  unfold hashByValue
  refine wpAny_bind (wpAny_specialOf hT PySem.F.slot_tuple_hash.lookup ?_)
  refine wpAny_bind (wpAny_seqItems ho hd ?_)
  refine wpAny_bind ?_
  show wpAny _ _ (forIn items _ _) _ _ s
  rw [← Array.forIn_toList]
  refine wpAny_forIn_list _ (fun rest r s' => r.1 = none ∧ s' = s ∧ ∀ v ∈ rest, Flat v) _ ?_ ?_ _ _ ⟨rfl, rfl, flat_all hi⟩
  · rintro v rest r s' ⟨hr, rfl, al⟩
    obtain ⟨c, hc⟩ := flat_val (al v List.mem_cons_self) 7
    rw [hc]
    refine wpAny_bind (wpAny_pure ?_)
    cases c with
    | true =>
      simp only [Bool.not_true, Bool.false_eq_true, if_false]
      exact wpAny_pure ⟨rfl, rfl, fun u hu => al u (List.mem_cons_of_mem _ hu)⟩
    | false =>
      simp only [Bool.not_false, if_true]
      exact wpAny_pure (wpAny_pure (q false))
  · rintro ⟨r1, r2⟩ s' ⟨hr, rfl, _⟩
    simp only at hr
    subst hr
    exact wpAny_pure (q true)
theorem tup_unseen {k : List Key} {b : Addr} {ys : List Value} {Q : Bool → Shared → Prop} (hk : IsTupleKey (mixKind P w) s.heap k b) (hy : ∀ y ∈ ys, ∃ k' c, y = Value.ref c ∧ IsTupleKey (mixKind P w) s.heap k' c) (q : Q false s) :
    wpAny (model P w) A (searchCouldBeSeen (.ref b) ys) Q E s := by
  unfold searchCouldBeSeen
  refine wpAny_bind ?_
  refine wpAny_forIn_list _ (fun rest r s' => r.1 = none ∧ s' = s ∧ ∀ y ∈ rest, ∃ k' c, y = Value.ref c ∧ IsTupleKey (mixKind P w) s.heap k' c) _ ?_ ?_ _ _ ⟨rfl, rfl, hy⟩
  · rintro v rest r s' ⟨hr, rfl, al⟩
    obtain ⟨k', c, rfl, hc⟩ := al v List.mem_cons_self
    have al' : ∀ y ∈ rest, ∃ k' c, y = Value.ref c ∧ IsTupleKey (mixKind P w) s'.heap k' c := fun y z => al y (List.mem_cons_of_mem _ z)
    dsimp only
    by_cases same : (b == c || (carriedByValue (.ref b) && carriedByValue (.ref c))) = true
    · exact wp_if_pos same (wpAny_pure ⟨rfl, rfl, al'⟩)
    · refine wp_if_neg same (wpAny_bind (wpAny_eqIsQuiet_tuple hk ?_))
      simp only [Bool.not_true, Bool.false_eq_true, if_false]
      refine wpAny_bind (wpAny_eqIsQuiet_tuple hc ?_)
      simp only [Bool.not_true, Bool.false_eq_true, if_false]
      refine wpAny_bind (tup_cls hk ?_)
      simp only [Bool.false_eq_true, if_false]
      refine wpAny_bind (tup_cls hc ?_)
      simp only [Bool.false_eq_true, if_false]
      exact wpAny_pure ⟨rfl, rfl, al'⟩
  · rintro ⟨r1, r2⟩ s' ⟨hr, rfl, _⟩
    simp only at hr
    subst hr
    exact wpAny_pure q
end
/-- tuples of numbers and texts -/
def tupE (P : Program) (w : World) : Elt P w (List Key) where
  is := IsTupleKey (mixKind P w)
  hash := tupleKeyHash (mixKind P w)
  draws := fun ks => ks.length + 1
  room := fun A => A.units < cLine
  hashes := fun hu hk q => wpAny_pyHash_tuple hu hk q
  equals := fun hu hx hy q => wpAny_eqBool_tuple hu hx hy q
  unseen := fun hk hy q => tup_unseen hk hy q
  byVal := fun hk q => tup_val hk q
  seq := fun ⟨o, items, n, ho, _, hd, _⟩ => ⟨o, items, n, ho, hd⟩
  stays := fun ⟨o, items, n, ho, r⟩ k => ⟨o, items, n, k o ho, r⟩
section
variable {X : Cx}
theorem tup_is {pins : List (Addr × Obj)} {σ : L2.St} {H : Hp} {s : Shared} {b : Addr} {k : List Key} (I : L2.Inv X pins σ H s) (h : SqT X.K H b (k.map kV)) : (tupE X.prog X.w).is s.heap k b := by
  obtain ⟨its, r, pl, hz⟩ := I.tuple h
  obtain ⟨o, a1, a2, a3, a4⟩ := pl
  have := items_are (P := X.prog) (w := X.w) r
  first
    | exact ⟨o, its.toArray, _, a1, a2, a4, by simpa using this⟩
    | exact ⟨o, its.toArray, _, a1, a2, a3, by simpa using this⟩
    | exact ⟨o, its.toArray, _, a1, a2.1, a3, by simpa using this⟩
/-- how many unlike keys there are -/
def unlikeK (ks : List (List Key)) : Nat := Xset.cn ks
theorem unlikeK_nodup (ks : List (List Key)) : unlikeK ks = ks.length ↔ ks.Nodup := Xset.cn_nodup ks
def tLenSetK (K : PySem.W.Frag) (ta : TE) : TE := fun σ H Q => ta σ H fun x H1 => ∃ (l : Addr) (ks : List (Addr × List Key)), x = .ref l ∧ (SqL K H1 l (ks.map fun p => V.ref p.1) ∨ SqT K H1 l (ks.map fun p => V.ref p.1)) ∧ (∀ p ∈ ks, SqT K H1 p.1 (p.2.map kV)) ∧ ks.length < 64 ∧ Q (.int (unlikeK (ks.map (·.2)))) H1
theorem pe_lenSetK {a : Expr} {ta : TE} {p p2 q pos : Pos} (hc : X.calm = true) (hu : X.A.units + 64 < cLine) (hg : Gl X "len") (hm : X.mg "len" = none) (hg2 : Gl X "set") (hm2 : X.mg "set" = none) (ha : PE X a ta)
    (na : starEach [a] X.env = (false, eval a X.env) :: starEach [] X.env := by rfl) : PE X (.Call (.Name "len" p) [.Call (.Name "set" p2) [a] [] q] [] pos) (tLenSetK X.K ta) := by
  refine ⟨fun pins s σ H Q I h => ?_⟩
  refine Call_ (ld_blt I hg hm boot_len ?_); refine PyProof.Rows.callWith_builtin1 (PyProof.Rows.args_cons ?_ rfl) rfl rfl
  refine Call_ (ld_blt I hg2 hm2 boot_set ?_); refine PyProof.Rows.callWith_type1 (PyProof.Rows.args_cons (thn (ha.run pins s σ H _ I h) fun v s1 ⟨x, H1, I1, r1, q1⟩ => PyProof.Rows.args_nil ?_) na) na rfl
  obtain ⟨l, ks, rfl, hq, al, h64, q1⟩ := q1
  cases r1
  have isk : ∀ p ∈ ks, (tupE X.prog X.w).is s1.heap p.2 p.1 := fun p hp => tup_is I1 (al p hp)
  have val : ∀ (its : List Value), Vals (ks.map fun p => V.ref p.1) its → ∀ (i : Nat) (v : Value), its.toArray[i]? = some v → ∃ p, ks[i]? = some p ∧ v = Value.ref p.1 := fun its r i v e => by
    rw [List.getElem?_toArray] at e
    have hl : its.length = ks.length := by rw [← r.length, List.length_map]
    have lt : i < ks.length := by rw [← hl]; exact (List.getElem?_eq_some_iff.mp e).1
    obtain ⟨w2, hw, hr⟩ := r.get (i := i) (x := .ref ks[i].1) (by simp [lt])
    rw [hw] at e
    cases e
    exact ⟨ks[i], List.getElem?_eq_getElem lt, hr⟩
  have fin : ∀ (its : List Value), Vals (ks.map fun p => V.ref p.1) its → (s1.heap.IsList l its.toArray ∨ s1.heap.IsTuple l its.toArray) →
      wpAny (model X.prog X.w) X.A (call (.type "set") [.ref l]) (fun v s₂ => wpAny (model X.prog X.w) X.A (spliced (backTo pos (starEach [] X.env))) (fun vs s₂ => wpAny (model X.prog X.w) X.A (call (.builtin "len") (v :: vs)) (EP X pins σ Q) X.xe s₂) X.xe s₂) X.xe s1 := fun its r pl => by
    have hl : its.toArray.size = ks.length := by rw [List.size_toArray, ← r.length, List.length_map]
    refine set_up (tupE X.prog X.w) (I1.ok.hd hc) pl (ks := ks) hl.symm (by rw [hl]; exact h64) (show X.A.units + 1 + 1 + 1 < cLine by omega) isk (val its r) fun h' tk hS hk => ?_
    refine PyProof.Rows.args_nil ?_
    rw [hl] at hS
    obtain ⟨L, es, ep, t, R, _, iff_, len⟩ := hS
    rw [List.take_length] at iff_
    have I2 : Inv X pins σ H1 { s1 with heap := h', toks := tk } := I1.kept fun b o e => hk b o (Heap.lt_size e) e
    obtain ⟨o, ho, hex, hd⟩ := R.at_
    have n1 : es.size = unlikeK (ks.map (·.2)) := by
      rw [rows_size R.rows, ← List.length_map (f := fun p : Addr × List Key => p.2)]
      exact cn_of R.nd iff_
    have n2 := R.few
    rw [← rows_size R.rows] at n2
    refine call_len_set ho hex hd (Holds.fits (s := { s1 with heap := h', toks := tk }) R) (by omega) ⟨.int (unlikeK (ks.map (·.2))), H1, I2.tok _, ⟨_, by rw [n1]⟩, q1⟩
  rcases hq with hq | hq
  · obtain ⟨its, r, pl, hz⟩ := I1.list hq
    exact fin its r (.inl pl.isList)
  · obtain ⟨its, r, pl, hz⟩ := I1.tuple hq
    obtain ⟨o, a1, a2, a3, a4⟩ := pl
    exact fin its r (.inr ⟨o, a1, a2, a3, a4⟩)
end
end Xts
set_option Elab.async false
set_option linter.all false
set_option maxRecDepth 100000
set_option maxHeartbeats 4000000
set_option pp.maxSteps 400
set_option pp.deepTerms false
/-! Things of texts, numbers, truths, tuples, lists and dicts: a weight that bounds how long they are shown, how deep and how many they are. -/
namespace W08
open PySem PySem.Spec PyProof.Rows L2 Az
mutual
def sw : PyData → Nat
  | .none => 4
  | .bool _ => 5
  | .int _ => 6
  | .str x => 10 * x.length + 2
  | .tuple ds => sws ds + 4
  | .list ds => sws ds + 4
  | .dict kvs => swk kvs + 4
def sws : List PyData → Nat
  | [] => 0
  | d :: r => sw d + 2 + sws r
def swk : List (PyData × PyData) → Nat
  | [] => 0
  | (k, v) :: r => sw k + sw v + 4 + swk r
end
mutual
def dw : PyData → Nat
  | .tuple ds => dws ds + 1
  | .list ds => dws ds + 1
  | .dict kvs => dwk kvs + 1
  | _ => 0
def dws : List PyData → Nat
  | [] => 0
  | d :: r => max (dw d) (dws r)
def dwk : List (PyData × PyData) → Nat
  | [] => 0
  | (k, v) :: r => max (max (dw k) (dw v)) (dwk r)
end
mutual
/-- small numbers, texts of few signs -/
def ok : PyData → Prop
  | .int i => i = 0 ∨ i = 1
  | .str x => ∀ c ∈ x.cps.toList, c < 128
  | .tuple ds => oks ds
  | .list ds => oks ds
  | .dict kvs => okk kvs
  | _ => True
def oks : List PyData → Prop
  | [] => True
  | d :: r => ok d ∧ oks r
def okk : List (PyData × PyData) → Prop
  | [] => True
  | (k, v) :: r => ok k ∧ ok v ∧ okk r
end
mutual
/-- how many things there are in all -/
def nc : PyData → Nat
  | .tuple ds => ncs ds + 1
  | .list ds => ncs ds + 1
  | .dict kvs => nck kvs + 1
  | _ => 1
def ncs : List PyData → Nat
  | [] => 0
  | d :: r => nc d + ncs r
def nck : List (PyData × PyData) → Nat
  | [] => 0
  | (k, v) :: r => nc k + nc v + nck r
end
theorem nc_pos : ∀ d : PyData, 1 ≤ nc d
  | .none | .bool _ | .int _ | .str _ => Nat.le_refl _
  | .tuple _ | .list _ | .dict _ => by rw [nc]; omega
theorem ncs_app : ∀ xs ys : List PyData, ncs (xs ++ ys) = ncs xs + ncs ys
  | [], ys => by simp [ncs]
  | x :: xs, ys => by
    rw [List.cons_append, ncs, ncs, ncs_app xs ys]
    omega
theorem len_ncs : ∀ ds : List PyData, ds.length ≤ ncs ds
  | [] => by simp [ncs]
  | d :: r => by
    have := len_ncs r
    have := nc_pos d
    rw [List.length_cons, ncs]
    omega
theorem ncs_mem : ∀ {ds : List PyData} {d : PyData}, d ∈ ds → nc d ≤ ncs ds
  | e :: r, d, h => by
    rw [ncs]
    rcases List.mem_cons.mp h with z | z
    · rw [z]; omega
    · have := ncs_mem z
      omega
theorem oks_iff : ∀ {ds : List PyData}, oks ds ↔ ∀ d ∈ ds, ok d
  | [] => by simp [oks]
  | d :: r => by simp [oks, oks_iff (ds := r)]
theorem sws_app : ∀ xs ys : List PyData, sws (xs ++ ys) = sws xs + sws ys
  | [], ys => by simp [sws]
  | x :: xs, ys => by
    rw [List.cons_append, sws, sws, sws_app xs ys]
    omega
theorem dws_app : ∀ xs ys : List PyData, dws (xs ++ ys) = max (dws xs) (dws ys)
  | [], ys => by simp [dws]
  | x :: xs, ys => by
    rw [List.cons_append, dws, dws, dws_app xs ys]
    omega
theorem len_sws : ∀ ds : List PyData, 2 * ds.length ≤ sws ds
  | [] => by simp [sws]
  | d :: r => by
    have := len_sws r
    rw [List.length_cons, sws]
    omega
theorem sws_mem : ∀ {ds : List PyData} {d : PyData}, d ∈ ds → sw d + 2 ≤ sws ds
  | e :: r, d, h => by
    rw [sws]
    rcases List.mem_cons.mp h with z | z
    · rw [z]; omega
    · have := sws_mem z
      omega
theorem dws_mem : ∀ {ds : List PyData} {d : PyData}, d ∈ ds → dw d ≤ dws ds
  | e :: r, d, h => by
    rw [dws]
    rcases List.mem_cons.mp h with z | z
    · rw [z]; omega
    · have := dws_mem z
      omega
theorem repr_le' {x : Str} (h : ∀ c ∈ x.cps.toList, c < 128) : (reprText x).length ≤ 10 * x.length + 2 :=
  PySem.StrLaws.reprText_len x fun c hc => Nat.lt_of_lt_of_le (h c hc) (by decide)
mutual
theorem shown_le : ∀ (d : PyData), ok d → d.showable = true ∧ d.shown.length ≤ sw d ∧ d.depth ≤ dw d
  | .none, _ => ⟨nice_none.sh, nice_none.sz, nice_none.dp⟩
  | .bool b, _ => ⟨(nice_bool b).sh, (nice_bool b).sz, (nice_bool b).dp⟩
  | .int i, h => by
    have n : Nice (.int i) 0 6 := by
      rcases h with h | h
      · subst h; exact nice_int (by decide) (by decide +kernel)
      · subst h; exact nice_int (by decide) (by decide +kernel)
    exact ⟨n.sh, n.sz, n.dp⟩
  | .str x, h => ⟨(nice_str (Nat.le_refl _)).sh, (nice_str (n := 10 * x.length + 2) (repr_le' h)).sz, by simp [PyData.depth]⟩
  | .tuple ds, h => by
    obtain ⟨a, b, c⟩ := shown_les ds h
    refine ⟨by simp [PyData.showable, a], ?_, ?_⟩
    · simp only [PyData.shown, sw]
      have := fmt_text (PyData.shownAll ds)
      omega
    · simp only [PyData.depth, dw]
      omega
  | .list ds, h => by
    obtain ⟨a, b, c⟩ := shown_les ds h
    refine ⟨by simp [PyData.showable, a], ?_, ?_⟩
    · simp only [PyData.shown, sw]
      have := list_le (PyData.shownAll ds)
      omega
    · simp only [PyData.depth, dw]
      omega
  | .dict kvs, h => by
    obtain ⟨a, b, c⟩ := shown_lek kvs h
    refine ⟨by simp [PyData.showable, a], ?_, ?_⟩
    · simp only [PyData.shown, sw]
      have := dict_le (PyData.shownKv kvs)
      omega
    · simp only [PyData.depth, dw]
      omega
theorem shown_les : ∀ (ds : List PyData), oks ds → PyData.showableAll ds = true ∧ piled (PyData.shownAll ds) ≤ sws ds ∧ PyData.depthAll ds ≤ dws ds
  | [], _ => by simp [PyData.showableAll, PyData.shownAll, PyData.depthAll, piled]
  | d :: r, h => by
    obtain ⟨a, b, c⟩ := shown_le d h.1
    obtain ⟨a2, b2, c2⟩ := shown_les r h.2
    refine ⟨by simp [PyData.showableAll, a, a2], ?_, ?_⟩
    · simp only [PyData.shownAll, piled_cons, sws]
      omega
    · simp only [PyData.depthAll, dws]
      omega
theorem shown_lek : ∀ (ds : List (PyData × PyData)), okk ds → PyData.showableKv ds = true ∧ piled (PyData.shownKv ds) ≤ swk ds ∧ PyData.depthKv ds ≤ dwk ds
  | [], _ => by simp [PyData.showableKv, PyData.shownKv, PyData.depthKv, piled]
  | (k, v) :: r, h => by
    obtain ⟨a, b, c⟩ := shown_le k h.1
    obtain ⟨a2, b2, c2⟩ := shown_le v h.2.1
    obtain ⟨a3, b3, c3⟩ := shown_lek r h.2.2
    refine ⟨by simp [PyData.showableKv, a, a2, a3], ?_, ?_⟩
    · have e : ((": " : Str)).length = 2 := by decide +kernel
      simp only [PyData.shownKv, piled_cons, swk, strLen_append]
      omega
    · simp only [PyData.depthKv, dwk]
      omega
end
/-- a thing within bounds -/
structure Bd (d : PyData) (n m k : Nat) : Prop where
  o : ok d
  n : nc d ≤ n
  s : sw d ≤ m
  d : dw d ≤ k
theorem Bd.mono {d : PyData} {n m k n' m' k' : Nat} (h : Bd d n m k) (a : n ≤ n') (b : m ≤ m') (c : k ≤ k') : Bd d n' m' k' := ⟨h.o, Nat.le_trans h.n a, Nat.le_trans h.s b, Nat.le_trans h.d c⟩
theorem Bd.nice {d : PyData} {n m k : Nat} (h : Bd d n m k) : Nice d k m := let ⟨a, b, c⟩ := shown_le d h.o; ⟨a, Nat.le_trans c h.d, Nat.le_trans b h.s⟩
theorem bd_none : Bd .none 1 4 0 := ⟨trivial, Nat.le_refl _, Nat.le_refl _, Nat.le_refl _⟩
theorem bd_bool (b : Bool) : Bd (.bool b) 1 5 0 := ⟨trivial, Nat.le_refl _, Nat.le_refl _, Nat.le_refl _⟩
theorem bd_str {x : Str} (h : ∀ c ∈ x.cps.toList, c < 128) : Bd (.str x) 1 (10 * x.length + 2) 0 := ⟨h, Nat.le_refl _, Nat.le_refl _, Nat.le_refl _⟩
theorem bd_tup {ds : List PyData} {n m k : Nat} (h : oks ds) (a : ncs ds ≤ n) (b : sws ds ≤ m) (c : dws ds ≤ k) : Bd (.tuple ds) (n + 1) (m + 4) (k + 1) := ⟨h, Nat.succ_le_succ a, Nat.add_le_add_right b 4, Nat.succ_le_succ c⟩
theorem bd_lst {ds : List PyData} {n m k : Nat} (h : oks ds) (a : ncs ds ≤ n) (b : sws ds ≤ m) (c : dws ds ≤ k) : Bd (.list ds) (n + 1) (m + 4) (k + 1) := ⟨h, Nat.succ_le_succ a, Nat.add_le_add_right b 4, Nat.succ_le_succ c⟩
theorem bd_tup1 {d : PyData} {n m k : Nat} (h : Bd d n m k) : Bd (.tuple [d]) (n + 1) (m + 6) (k + 1) :=
  ⟨⟨h.o, trivial⟩, by have := h.n; simp only [nc, ncs]; omega, by have := h.s; simp only [sw, sws]; omega, by have := h.d; simp only [dw, dws]; omega⟩
theorem bd_lst1 {d : PyData} {n m k : Nat} (h : Bd d n m k) : Bd (.list [d]) (n + 1) (m + 6) (k + 1) :=
  ⟨⟨h.o, trivial⟩, by have := h.n; simp only [nc, ncs]; omega, by have := h.s; simp only [sw, sws]; omega, by have := h.d; simp only [dw, dws]; omega⟩
theorem bd_dct1 {d : PyData} {n m k : Nat} (h : Bd d n m k) : Bd (.dict [(.str "a", d)]) (n + 2) (m + 20) (k + 1) := by
  have e : ((("a" : Str)).length) = 1 := by decide +kernel
  have o : ok (.str "a") := fun c hc => by
    have : ("a" : Str).cps.toList = [97] := by decide +kernel
    rw [this] at hc
    rw [List.mem_singleton.mp hc]; decide
  exact ⟨⟨o, h.o, trivial⟩, by have := h.n; simp only [nc, nck]; omega, by have := h.s; simp only [sw, swk, e]; omega, by have := h.d; simp only [dw, dwk]; omega⟩
theorem oks_sub {xs ys : List PyData} (h : oks ys) (s : ∀ d ∈ xs, d ∈ ys) : oks xs := oks_iff.mpr fun d hd => oks_iff.mp h d (s d hd)
theorem ncs_take (k : Nat) (ds : List PyData) : ncs (ds.take k) + ncs (ds.drop k) = ncs ds := by rw [← ncs_app, List.take_append_drop]
theorem sws_take (k : Nat) (ds : List PyData) : sws (ds.take k) + sws (ds.drop k) = sws ds := by rw [← sws_app, List.take_append_drop]
theorem dws_take (k : Nat) (ds : List PyData) : max (dws (ds.take k)) (dws (ds.drop k)) = dws ds := by rw [← dws_app, List.take_append_drop]
end W08
set_option Elab.async false
set_option linter.all false
set_option maxRecDepth 100000
set_option maxHeartbeats 4000000
set_option pp.maxSteps 400
set_option pp.deepTerms false
/-! list.extend(tuple); o.m(a=e) by keywords alone -/
namespace Xex
open PySem PySem.Spec PyProof.Rows L2
theorem ext_tup (p : Addr) (us : Array Value) (k : Nat) (r : Addr) (ws : Array Value) (j : Nat) (di : Option Addr) (so : Array (Option Value)) (e0 : ¬(!us.isEmpty && Builtin.List.listTooLong (us.size + ws.size)) = true) (e1 : us.size ≤ sizeLine) (e2 : us.size + ws.size ≤ sizeLine + 1) :
    Meets (Builtin.«list.extend» ⟨[Value.ref p, Value.ref r], []⟩) (fun _ R z => z.heap.get? p = some { cls := .type "list", dict := none, data := .seq us k, slots := #[] } ∧ z.heap.get? r = some { cls := .type "tuple", dict := di, data := .seq ws j, slots := so } ∧ R (.ok (.ret Value.none)) { z with heap := z.heap.update p (Obj.mapSeq fun y => y ++ ws), toks := z.toks }) :=
  .of_wp fun prog w A R z h => by
    obtain ⟨hp, g, d, tk, os⟩ := z
    obtain ⟨h1, h2, h⟩ := h
    have fa := AutoSeq1.idx_int
    have fb := AutoSeq1.sub_tuple_tuple
    have fc := AutoSeq1.sub_list_list
    have fd := AutoSeq1.sub_tuple_list
    have fe := AutoSeq1.sub_list_tuple
    have big : (us ++ ws).size ≤ sizeLine + 1 := by
      rw [Array.size_append]
      exact e2
    wp_walk using (wpAny_updateSeq h1 rfl (hz := e1) (_hz' := big)), wpAny_loadPart' h1, wpAny_loadPart' h2
    exact ⟨_, rfl, h⟩
section
variable {X : Cx}
def rExtT : V → List V → Hp → VK → Prop := fun x ys H Q => ∃ p r as bs, x = .ref p ∧ ys = [.ref r] ∧ H p = some (.lst as) ∧ H r = some (.tup bs) ∧ as.length + bs.length ≤ sizeLine ∧ Q .non (upd H p (.lst (as ++ bs)))
theorem mt_extT : MtM X "list.extend" rExtT := by
  intro pins s σ H x ys v us Q I rx rv h
  obtain ⟨p, r, as, bs, rfl, rfl, eP, eR, hz, q⟩ := h
  cases rx
  obtain ⟨u, rfl, ru⟩ := rv.one
  cases ru
  obtain ⟨z, its, n, ra, hl, e⟩ := I.lstM eP
  have okR : ObjOk X.prog X.w H s.heap r (.tup bs) := I.hok r _ eR
  obtain ⟨_, jts, rb, ⟨oc, od, oda, osl⟩, eh, ec, m, ed⟩ := okR
  dsimp only at ec ed
  subst ec ed
  have lb := rb.length
  have fits : its.toArray.size + jts.toArray.size ≤ sizeLine := by
    rw [List.size_toArray, List.size_toArray]
    omega
  have few : ¬ (!its.toArray.isEmpty && Builtin.List.listTooLong (its.toArray.size + jts.toArray.size)) = true := by
    rw [notLongL fits, Bool.and_false]
    exact Bool.false_ne_true
  refine call_meets F.slot_list_extend ⟨_, e, rfl⟩ F.entry_list_extend (F.args_list_extend_2 _ _) (ext_tup p its.toArray n r jts.toArray m od osl few (by rw [List.size_toArray]; omega) (by omega)) ⟨e, eh, ?_⟩
  refine ⟨.non, _, I.lset (its' := its ++ jts) eP e (by simp) (ra.append rb) ?_, rfl, q⟩
  rw [List.length_append]
  omega
end
section
variable {X : Cx} {CX : CXT} {k : Nat} {f C : Addr} {fd : FuncData} {ps ks : List Str} {sp : Sp} {E : XK} {m : Str} {o : Expr} {apos pos : Pos} {kws : List Keyword} {ta : TE} {tk : TA} {g : List Value → List Value → List Value} {gV : List V → List V → List V}
def tMethK (C : Addr) (m : Str) (n : Nat) (sp : Sp) (gV : List V → List V → List V) (E : XK) (ta : TE) (tk : TA) : TE := fun σ H Q => ta σ H fun x H1 => ∃ a dx fs, x = .ref a ∧ H1 a = some (.ins C dx fs) ∧ fs.lookup m = none ∧ tk σ H1 fun zs H2 => zs.length = n ∧ sp (gV [x] zs) H2 Q E
theorem pe_methK {pl : Sem Bool} (he : PE X o ta) (c : Cls X.K C) (hm : Meth X.K C m f) (F : FnOk X.prog X.w X.K X.mg X.base CX k f fd ps sp) (room : Room k X.A) (kb : KBn X.K fd ps 1 ks g gV) (px : Passes CX X E) (pk : PK X kws tk)
    (hall : (backToKw pos (keywordEach kws X.env)).all (·.1.isSome) = true := by rfl) (hks : (backToKw pos (keywordEach kws X.env)).filterMap (·.1) = ks := by rfl)
    (hpl : ((backTo pos (starEach [] X.env)).any (·.1) || (backToKw pos (keywordEach kws X.env)).any (·.1.isNone)) = false := by rfl)
    (ht : eval (.Call (.Attribute o m apos) [] kws pos) X.env = (do
      let ov ← eval o X.env
      standAt apos.atName
      let (fn, fst) ← holding [ov] (getMethod ov m pl)
      callWith pos fn fst (backTo pos (starEach [] X.env)) (backToKw pos (keywordEach kws X.env))) := by rfl) :
    PE X (.Call (.Attribute o m apos) [] kws pos) (tMethK C m ks.length sp gV E ta tk) := by
  refine ⟨fun pins s σ H Q I h => ?_⟩
  refine PySem.W.methodCall_KW (pl := pl) (thn (he.run pins s σ H _ I h) fun u s1 ⟨x, H1, I1, rx, a, dx, fs, ex, ea, l, q⟩ => ?_) ht
  subst ex
  obtain rfl : u = Value.ref a := rx
  refine getmeth_ok I1 ea c hm l ?_
  refine PySem.W.callWith_KW0 (first := [.ref a]) (h₀ := X.base) I.ok.mod.kin hm.kp hall (thn (pk.run pos pins s1 σ H1 _ I1 q) fun ws s2 z => ?_) hpl
  obtain ⟨zs, H2, I2, rz, l2, q2⟩ := z
  refine ⟨I2.kIn, ?_⟩
  rw [hks]
  exact run_fnN (us := [.ref a]) (vs := [.ref a]) F room kb px I2 (.cons rfl .nil) rz rfl l2 q2
end
end Xex
set_option Elab.async false
set_option linter.all false
set_option maxRecDepth 100000
set_option maxHeartbeats 4000000
set_option pp.maxSteps 400
set_option pp.deepTerms false
/-! sorted(xs, key=o.m): the key a bound method; o.m as a value -/
namespace Xsm
open PySem PySem.Spec PyProof.Rows L2
/-! ## sorted(xs, key=f), f a def of the text, xs a list or a tuple -/
/-- the items that list() would give: of a list, of a tuple -/
theorem collect_seq {prog : Program} {w : World} {A : Around} {E : Value → Shared → Prop} {s : Shared} {l : Addr} {o : Obj} {vs : List Value} {n : Nat} {T : String} {Q : List Value → Shared → Prop}
    (ho : s.heap.get? l = some o) (hT : T = "list" ∨ T = "tuple") (hc : o.cls = .type T) (hd : o.data = .seq vs.toArray n) (hz : vs.length ≤ sizeLine)
    (h : Q vs { s with heap := (s.heap.push (seqObj "list" #[] 0)).update s.heap.objs.size (Obj.mapSeq (· ++ vs.toArray)) }) : wpAny (model prog w) A (collect (.ref l)) Q E s := by
  unfold collect
  refine wpAny_bind (wpAny_runValue (codeAny_builtin entry_proto_collect' ?_))
  show wpAny _ _ (do again (.builtin "list.__iadd__" ⟨[← newList [], .ref l], []⟩)) _ _ s
  refine wpAny_bind (wpAny_newList (wpAny_pure ⟨Code.quiet_builtin _ (by decide +kernel), codeAny_builtin entry_list_iadd' ?_⟩))
  show wpAny _ _ (Builtin.List.listExtendWith (.ref s.heap.objs.size) (.ref l) (.ref s.heap.objs.size)) _ _ { s with heap := s.heap.push (seqObj "list" #[] 0) }
  unfold Builtin.List.listExtendWith
  have at_l : (s.heap.push (seqObj "list" #[] 0)).get? l = some o := Heap.get?_push_of_some _ ho
  have at_n : (s.heap.push (seqObj "list" #[] 0)).get? s.heap.objs.size = some (seqObj "list" #[] 0) := Heap.get?_push_size _ rfl
  refine wpAny_bind (wpAny_typeOf (T := T) ⟨o, at_l, hc⟩ ?_)
  have yes : (Builtin.List.listSameRef (.ref s.heap.objs.size) (.ref l) || Value.type T == Value.type "list" || Value.type T == Value.type "tuple") = true := by
    rcases hT with rfl | rfl
    · rw [show (Value.type "list" == Value.type "list") = true from rfl]
      simp
    · rw [show (Value.type "tuple" == Value.type "tuple") = true from rfl]
      simp
  rw [if_pos yes]
  refine wpAny_bind (listItems_at at_l hd ?_)
  refine wpAny_bind (listItems_at (xs := #[]) (n := 0) at_n rfl ?_)
  rw [if_neg (by simp)]
  refine wpAny_bind (listUpdate_at (xs := #[]) (n := 0) at_n rfl ?_ (Nat.zero_le _) ?_)
  · refine wpAny_pure ?_
    show wpAny (model prog w) A (do
        let ob ← load s.heap.objs.size
        match ob.data with
        | .seq xs _ => pure xs.toList
        | _ => unsupported "internal:collect") Q E { s with heap := (s.heap.push (seqObj "list" #[] 0)).update s.heap.objs.size (Obj.mapSeq (· ++ vs.toArray)) }
    refine wpAny_bind (wpAny_load (get?_update_seq at_n _) ?_)
    have e : ((#[] : Array Value) ++ vs.toArray).toList = vs := by simp
    show wpAny _ _ (pure ((#[] : Array Value) ++ vs.toArray).toList) Q E _
    rw [e]
    exact wpAny_pure h
  · show (#[] ++ vs.toArray).size ≤ sizeLine + 1
    simp only [Array.size_append, List.size_toArray, List.length_nil]
    omega
/-- sorted(xs, ..) is the sort of a new list -/
theorem sorted_seq {prog : Program} {w : World} {A : Around} {E : Value → Shared → Prop} {s : Shared} {l : Addr} {o : Obj} {vs : List Value} {n : Nat} {T : String} {kw : List (Str × Value)} {Q : Value → Shared → Prop}
    (ho : s.heap.get? l = some o) (hT : T = "list" ∨ T = "tuple") (hc : o.cls = .type T) (hd : o.data = .seq vs.toArray n) (hz : vs.length ≤ sizeLine)
    (ha1 : argsOk "sorted" ⟨[.ref l], kw⟩) (ha2 : ∀ x, argsOk "list.sort" ⟨[.ref x], kw⟩)
    (body : ∀ E' : Value → Shared → Prop, wpAny (model prog w) A.in1.in1 (Builtin.«list.sort» ⟨[.ref (s.heap.objs.size + 1)], kw⟩)
      (fun f s' => f = .done (.ret .none) ∧ Q (.ref (s.heap.objs.size + 1)) s') E' { s with heap := PySem.W.copyHeap s.heap vs }) :
    wpAny (model prog w) A (call (.builtin "sorted") [.ref l] kw) Q E s := by
  refine PyProof.Rows.call_function_entry_kw kind_sorted plain_sorted entry_sorted ha1 ?_
  unfold Builtin.«sorted»
  refine wpAny_bind (m := checkCount "sorted" 1 1 _) (wpAny_pure ?_)
  refine wpAny_bind (collect_seq ho hT hc hd hz (wpAny_bind (wpAny_newList ?_ hz)))
  have sz : ((s.heap.push (seqObj "list" #[] 0)).update s.heap.objs.size (Obj.mapSeq (· ++ vs.toArray))).objs.size = s.heap.objs.size + 1 := by
    rw [Heap.size_update, size_push']
  show wpAny _ _ _ _ _ { s with heap := PySem.W.copyHeap s.heap vs }
  rw [sz]
  refine wpAny_bind (wpAny_holding (wpAny_call_entry_kw slot_list_sort ⟨_, PySem.W.copyHeap_at s.heap vs, rfl⟩ entry_list_sort ?body (ha2 _)))
  case body =>
    refine wpAny_mono (body _) (fun f s' hf => ?_) fun _ _ e => e
    obtain ⟨rfl, hq⟩ := hf
    exact ⟨_, rfl, wpAny_pure ⟨_, rfl, hq⟩⟩
theorem sqT_same {K : PySem.W.Frag} {H H' : Hp} (s : Same H H') {t : Addr} {xs : List V} (q : SqT K H t xs) : SqT K H' t xs := by
  rcases q with (q | ⟨o, q⟩) | q
  · exact .inl (.inl (s _ _ q))
  · exact .inl (.inr ⟨o, s _ _ q⟩)
  · exact .inr q
section
variable {K : PySem.W.Frag} {H H' : Hp}
mutual
theorem dp_same (s : Same H H') : ∀ (d : PyData) (v : V), Dp K H v d → Dp K H' v d
  | .none, _, h => by
    cases h
    exact .non
  | .bool b, _, h => by
    cases h
    exact .bl b
  | .int i, _, h => by
    cases h
    exact .int i
  | .str x, _, h => by
    cases h
    exact .str x
  | .list ds, _, h => by
    cases h with
    | lst q r => exact .lst (s.seq q) (dpAll_same s ds _ r)
  | .tuple ds, _, h => by
    cases h with
    | tup q r => exact .tup (sqT_same s q) (dpAll_same s ds _ r)
  | .dict _, _, h => by cases h
theorem dpAll_same (s : Same H H') : ∀ (ds : List PyData) (vs : List V), DpAll K H vs ds → DpAll K H' vs ds
  | [], _, h => by
    cases h
    exact .nil
  | d :: ds, _, h => by
    cases h with
    | cons q r => exact .cons (dp_same s d _ q) (dpAll_same s ds _ r)
end
end
section
variable {X : Cx} {pins : List (Addr × Obj)} {σ : L2.St} {H : Hp}
/-- what stands beside the heap's own things, behind a call -/
theorem fp_on {H' : Hp} {b : Addr} (f : FpOk X pins H b) (n : H' b = none) : FpOk X pins H' b := ⟨n, f.2⟩
theorem fp_stack {s : Shared} {b : Addr} (I : Inv X pins σ H s) (f : FpOk X pins H b) : b ∉ frs X.stack := fun z => by
  rcases List.mem_cons.mp (I.stkSub b z) with e | e
  · exact f.2.1 e
  · exact f.2.2.1 e
/-- an object of nobody's becomes a list of ours, another is let go -/
theorem Inv.take {s : Shared} {h' : Heap} {a kS : Addr} {ys : List V} {out : List Value} {c t' : Nat} (I : Inv X pins σ H s) (fa : FpOk X pins H a) (fk : FpOk X pins H kS) (keep : ∀ b o, b ≠ a → b ≠ kS → s.heap.get? b = some o → h'.get? b = some o)
    (hz : ys.length ≤ sizeLine) (rv : Vals ys out) (na : h'.get? a = some (seqObj "list" out.toArray c)) : Inv X pins σ (upd H a (.lst ys)) { s with heap := h', toks := t' } := by
  have ne : ∀ b o, H b = some o → b ≠ a ∧ b ≠ kS := fun b o e => ⟨ne_of_none e fa.1, ne_of_none e fk.1⟩
  have off : ∀ {b : Addr}, b ∉ [a, kS] → b ≠ a ∧ b ≠ kS := fun {b} z => ⟨fun q => z (by simp [q]), fun q => z (by simp [q])⟩
  have u : Un (frs X.stack) [a, kS] H (upd H a (.lst ys)) s.heap h' := by
    refine ⟨fun b o e n _ hx => keep b o (off hx).1 (off hx).2 e, fun b o e n _ hx => ⟨o.slots, keep b o (off hx).1 (off hx).2 e⟩, fun b o e n hx => ?_, fun b o e hx => ⟨o, keep b o (off hx).1 (off hx).2 e⟩, fun b zs e => ?_, fun b o z e => ?_, fun b ps e => ⟨#[], ?_⟩⟩
    · rw [upd_ne (off hx).1]
      exact n
    · rw [upd_ne (ne _ _ e).1]
      exact e
    · rw [upd_ne (ne _ _ e).1]
      exact e
    · rw [upd_ne (ne _ _ e).1, e]
      simp
  have ok : HOk X.prog X.w (upd H a (.lst ys)) h' := fun b o e => by
    by_cases hb : b = a
    · subst hb
      rw [upd_same] at e
      cases e
      exact ⟨hz, out, c, rv, na⟩
    · rw [upd_ne hb] at e
      refine (I.hok b o e).stay (fun z v hz' q => ?_) (fun z q => ?_) fun z zs q => ?_
      · have nz : z ≠ a ∧ z ≠ kS := by
          rcases hz' with e1 | e1
          · rw [e1]
            exact ne _ _ e
          · exact ne _ _ e1
        exact keep z v nz.1 nz.2 q
      · rw [upd_ne (ne _ _ q).1]
        exact q
      · rw [upd_ne (ne _ _ q).1]
        exact q
  refine I.call (g' := s.gens) (d' := s.drawn) (t' := t') (ch := [a, kS]) u ok I.bare fun b hb => ?_
  rcases List.mem_cons.mp hb with e | e
  · rw [e]
    exact ⟨fa.2.2.2.1, fa.2.1, fa.2.2.2.2.1, fa.2.2.2.2.2⟩
  · rw [List.mem_singleton.mp e]
    exact ⟨fk.2.2.2.1, fk.2.1, fk.2.2.2.2.1, fk.2.2.2.2.2⟩
theorem vals_each : ∀ {xs : List V} {vs : List Value}, Vals xs vs → PySem.W.EachIs (fun v x => RelV x v) vs xs
  | _, _, .nil => .nil
  | _, _, .cons r t => .cons r (vals_each t)
theorem each_vals : ∀ {xs : List V} {vs : List Value}, PySem.W.EachIs (fun v x => RelV x v) vs xs → Vals xs vs
  | _, _, .nil => .nil
  | _, _, .cons r t => .cons r (each_vals t)
end
section
variable {X : Cx} {f g sf : Addr} {pins : List (Addr × Obj)} {σ : L2.St} {H : Hp} {k : Nat} {fd : FuncData} {ps : List Str} {sp : Sp} {kd : V → PyData} {xs : List V}
/-- what the key's def promises of the items -/
def KeyOk (X : Cx) (sf : Addr) (sp : Sp) (H : Hp) (xs : List V) (kd : V → PyData) : Prop :=
  ∀ (H' : Hp) (Q : VK), Same H H' → ∀ x ∈ xs, (∀ v H2, Same H' H2 → Dp X.K H2 v (kd x) → Q v H2) → sp [.ref sf, x] H' Q E0
theorem each_get {α β : Type} {R : α → β → Prop} : ∀ {as : List α} {bs : List β} {i : Nat} {a : α}, PySem.W.EachIs R as bs → as[i]? = some a → ∃ b, bs[i]? = some b ∧ R a b
  | _, _, _, _, .nil, e => by simp at e
  | _, _, 0, _, .cons r _, e => by
    simp at e
    subst e
    exact ⟨_, rfl, r⟩
  | _, _, i + 1, a, .cons _ t, e => by
    obtain ⟨b, h1, h2⟩ := each_get (i := i) (a := a) t (by simpa using e)
    exact ⟨b, by simpa using h1, h2⟩
theorem each_more {α β : Type} {R : α → β → Prop} : ∀ {as : List α} {bs : List β} {a : α} {b : β}, PySem.W.EachIs R as bs → R a b → PySem.W.EachIs R (as ++ [a]) (bs ++ [b])
  | _, _, _, _, .nil, r => .cons r .nil
  | _, _, _, _, .cons q t, r => .cons q (each_more t r)
theorem each_mono {α β : Type} {R S : α → β → Prop} (h : ∀ a b, R a b → S a b) : ∀ {as : List α} {bs : List β}, PySem.W.EachIs R as bs → PySem.W.EachIs S as bs
  | _, _, .nil => .nil
  | _, _, .cons r t => .cons (h _ _ r) (each_mono h t)
theorem each_len {α β : Type} {R : α → β → Prop} : ∀ {as : List α} {bs : List β}, PySem.W.EachIs R as bs → as.length = bs.length
  | _, _, .nil => rfl
  | _, _, .cons _ t => congrArg Nat.succ (each_len t)
theorem keyI_rest {A : Around} {E : Value → Shared → Prop} {s : Shared} {a kS : Addr} {e1 : Nat} {vs : List Value} {P : PySem.Fin → Shared → Prop} (fr : A.frames = some X.stack) (room : Room k A)
    (F : FnOk X.prog X.w X.K X.mg X.base CX0 k g fd ps sp) (eq_ : H f = some (.met g sf)) (bd : Binds X.K fd ps []) (ok : KeyOk X sf sp H xs kd) (I : Inv X pins σ H s) (fa : FpOk X pins H a) (fk : FpOk X pins H kS) (hka : kS ≠ a) (rv : Vals xs vs)
    (nk : s.heap.get? kS = some (seqObj "list" #[] 0)) (na : s.heap.get? a = some (seqObj "list" #[] e1)) (hz : vs.length ≤ sizeLine)
    (hal : PySem.W.AllAlike (xs.map kd)) (hsk : PySem.W.Sortable (xs.map kd)) (hu : ∀ d, d ∈ xs.map kd → A.units + d.depth < cLine)
    (h : ∀ s' H', Inv X pins σ (upd H' a (.lst (xs.mergeSort (PySem.W.dataLe false kd)))) s' → Same H H' → H' a = none → P (.done (.ret .none)) s') :
    wpAny (model X.prog X.w) A (ksk_rest a (.ref f) false vs.toArray e1 (.ref kS)) P E s := by
  have hlen : xs.length = vs.length := rv.length
  unfold ksk_rest
  refine wpAny_bind (wpAny_rule ?_)
  rw [List.forIn_toArray]
  refine wpAny_bind (ksk_fold (fun i s' => ∃ (H' : Hp) (kA : Array Value) (e : Nat), Inv X pins σ H' s' ∧ Same H H' ∧ H' kS = none ∧ H' a = none ∧ s'.heap.get? kS = some (seqObj "list" kA e) ∧ s'.heap.get? a = some (seqObj "list" #[] e1) ∧
    PySem.W.EachIs (fun v d => ∃ y, RelV y v ∧ Dp X.K H' y d) kA.toList ((xs.map kd).take i)) vs 0 s ⟨H, #[], 0, I, Same.refl H, fk.1, fa.1, nk, na, by rw [List.take_zero]; exact .nil⟩ ?step ?done)
  case step =>
    rintro j u s1 hx ⟨H1, kA, e, I1, sm, hk0, ha0, nk1, na1, hks⟩
    simp only [Nat.zero_add] at hks ⊢
    obtain ⟨x, hxj, rx⟩ := each_get (vals_each rv) hx
    have hxm : x ∈ xs := List.mem_of_getElem? hxj
    have fk1 := fp_on fk hk0
    have fa1 := fp_on fa ha0
    have hsp := ok H1 (fun v H2 => Same H1 H2 ∧ Dp X.K H2 v (kd x)) sm x hxm fun v H2 s2 d2 => ⟨s2, d2⟩
    have en : Env0 X.prog X.w X.K X.mg X.base A X.stack s1 H1 := by
      have z := I1.env0
      exact ⟨fr, z.mod, z.bs, z.bsz, z.funs, z.frf, z.hok, z.bare⟩
    have hl1 : [V.ref sf, x].length = ps.length := F.len _ _ _ _ hsp
    have b1 := bd s1 [.ref sf, u] I1.kIn (by simpa using hl1)
    rw [List.append_nil] at b1
    have hkz : kA.size ≤ vs.length := by
      have z := each_len hks
      rw [Array.length_toList, List.length_take, List.length_map] at z
      omega
    refine wpAny_bind (wpAny_attempt (wpAny_call (codeAny_mono (call_met I1 (sm _ _ eq_) (F.run A X.stack s1 H1 ⟨[.ref sf, u], []⟩ [.ref sf, u] [.ref sf, x] _ E0 room en b1 (.cons rfl (.cons rx .nil)) hsp)) fun r s2 hr => ?_)))
    match r, hr with
    | .error z, hr => exact False.elim hr
    | .ok .next, hr => exact False.elim hr
    | .ok .brk, hr => exact False.elim hr
    | .ok .cont, hr => exact False.elim hr
    | .ok (.ret v), hr =>
      obtain ⟨y, H2, os, bare, un, hok, ry, sm2, dp2⟩ := hr
      obtain ⟨h2, g2, d2, t2, os2⟩ := s2
      obtain rfl : os2 = s1.os := os
      have I2 : Inv X pins σ H2 _ := I1.call (h' := h2) (g' := g2) (d' := d2) (t' := t2) (ch := []) un hok bare fun b z => absurd z List.not_mem_nil
      have nk2 : h2.get? kS = some (seqObj "list" kA e) := un.keep _ _ nk1 hk0 (fp_stack I1 fk1) List.not_mem_nil
      have na2 : h2.get? a = some (seqObj "list" #[] e1) := un.keep _ _ na1 ha0 (fp_stack I1 fa1) List.not_mem_nil
      have hk2 : H2 kS = none := un.free _ _ nk1 hk0 List.not_mem_nil
      have ha2 : H2 a = none := un.free _ _ na1 ha0 List.not_mem_nil
      have sb := Heap.SameBut.update h2 kS (Obj.mapSeq (·.push v))
      obtain ⟨c2, hc2⟩ : ∃ c2, (h2.update kS (Obj.mapSeq (·.push v))).get? kS = some (seqObj "list" (kA.push v) c2) := ⟨_, get?_update_seq nk2 (·.push v)⟩
      refine wpAny_bind (listUpdate_at (s := ⟨h2, g2, d2, t2, s1.os⟩) nk2 rfl ?_ (Nat.le_trans hkz hz) (by rw [Array.size_push]; omega))
      refine wpAny_pure ⟨rfl, H2, kA.push v, c2, ?_, sm.trans sm2, hk2, ha2, hc2, (sb.2 a hka.symm).trans na2, ?_⟩
      · refine Inv.turnedL (ch := [kS]) (t' := t2) I2 (fun b o hb q => (sb.2 b fun z => hb (by simp [z])).trans q) fun b hb => ?_
        rw [List.mem_singleton.mp hb]
        exact fp_on fk1 hk2
      · have ek : (xs.map kd).take (j + 1) = (xs.map kd).take j ++ [kd x] := by
          rw [List.take_add_one, List.getElem?_map, hxj]
          rfl
        rw [ek, Array.toList_push]
        refine each_more (each_mono (fun w d q => ?_) hks) ⟨y, ry, dp2⟩
        obtain ⟨z, rz, dz⟩ := q
        exact ⟨z, rz, dp_same sm2 _ _ dz⟩
  case done =>
    rintro s1 ⟨H1, kA, e, I1, sm, hk0, ha0, nk1, na1, hks⟩
    rw [Nat.zero_add, List.take_of_length_le (by rw [List.length_map]; omega)] at hks
    have hk' : PySem.W.EachIs (fun v d => ∃ as, Reads s1.heap v d as) kA.toList (xs.map kd) := each_mono (fun v d q => by
      obtain ⟨y, ry, dy⟩ := q
      exact Dp.reads I1 d y v dy ry) hks
    have hsz : kA.size = vs.length := by
      have z := each_len hk'
      rw [Array.length_toList, List.length_map] at z
      omega
    -- all but the list of the keys
    let Hk : Hp := upd (fun _ => none) kS (.lst [])
    have hidK : (hidT s1.heap Hk).get? kS = none := by
      cases q : (hidT s1.heap Hk).get? kS with
      | none => rfl
      | some o =>
        have z := (of_hidT q).2
        rw [show Hk kS = some (.lst []) from upd_same] at z
        cases z
    refine wpAny_bind (listItems_at nk1 rfl ?_)
    refine PySem.W.keyH_end (κ := PySem.W.dataKind s1.heap (xs.map kd)) (h₁ := hidT s1.heap Hk) (fun b o _ q => (of_hidT q).1) hidK nk1 na1 hka (PySem.W.SortsAt.data hk' hal hsk hu) hsz hz fun h3 tk3 c k3 n3 => ?_
    have each := PySem.W.keyedOut_each (rev := false) (out := PySem.W.sortVals (PySem.W.dataKind s1.heap (xs.map kd)) false kA.toList vs) kd (vs := vs) ⟨s1.heap, kA.toList, hal, rfl, hk'⟩ (vals_each rv)
    have I3 := Inv.take (t' := tk3) (kS := kS) (h' := h3) (c := c) I1 (fp_on fa ha0) (fp_on fk hk0) (fun b o hb hb2 q => k3 b o hb (hidT_get q (by rw [show Hk b = none from by show upd _ _ _ _ = _; rw [upd_ne hb2]]))) ?_ (each_vals each) n3
    · exact h _ H1 I3 sm ha0
    · rw [List.length_mergeSort]
      omega
end
section
variable {X : Cx} {k : Nat} {g sf : Addr} {fd : FuncData} {ps : List Str} {sp : Sp}
def rSortM (X : Cx) (g : Addr) (sp : Sp) : List V → List V → Hp → VK → Prop := fun vs zs H Q => ∃ (l f sf : Addr) (xs : List V) (kd : V → PyData), vs = [.ref l] ∧ zs = [.ref f] ∧ H f = some (.met g sf) ∧ (SqL X.K H l xs ∨ SqT X.K H l xs) ∧
  KeyOk X sf sp H xs kd ∧ PySem.W.AllAlike (xs.map kd) ∧ PySem.W.Sortable (xs.map kd) ∧ (∀ x ∈ xs, (kd x).depth ≤ 50) ∧ ∀ H' a, Same H H' → H' a = none → Q (.ref a) (upd H' a (.lst (xs.mergeSort (PySem.W.dataLe false kd))))
theorem cr_sortM (room : Room (k + 2) X.A) (F : FnOk X.prog X.w X.K X.mg X.base CX0 k g fd ps sp) (bd : Binds X.K fd ps []) : CallRK X (.builtin "sorted") [Str.ofString "key"] (rSortM X g sp) := by
  intro pins s σ H vs zs us ws Q I rv rz h
  obtain ⟨l, f, sf, xs, kd, rfl, rfl, em, hq, ok, hal, hsk, hdp, q⟩ := h
  obtain ⟨u, rfl, ru⟩ := vals1 rv
  obtain ⟨w, rfl, rw'⟩ := vals1 rz
  cases ru
  cases rw'
  obtain ⟨T, o, its, n, hT, ho, hc, hd, rx, hz⟩ : ∃ (T : String) (o : Obj) (its : List Value) (n : Nat), (T = "list" ∨ T = "tuple") ∧ s.heap.get? l = some o ∧ o.cls = .type T ∧ o.data = .seq its.toArray n ∧ Vals xs its ∧ its.length ≤ sizeLine := by
    rcases hq with hq | hq
    · obtain ⟨its, r, ⟨o, n, ho, hc, _, hd⟩, hz⟩ := I.list hq
      exact ⟨"list", o, its, n, .inl rfl, ho, hc, hd, r, by rw [← r.length]; exact hz⟩
    · obtain ⟨its, r, ⟨o, ho, hc, n, hd⟩, hz⟩ := I.tuple hq
      exact ⟨"tuple", o, its, n, .inr rfl, ho, hc, hd, r, by rw [← r.length]; exact hz⟩
  have hu := room.units
  refine sorted_seq ho hT hc hd hz (ksk_s1 _ _) (fun _ => ksk_l1 _ _) fun E' => ?_
  show wpAny _ _ (Builtin.«list.sort» ⟨[.ref (s.heap.objs.size + 1)], [(Str.ofString "key", .ref f)]⟩) _ _ _
  rw [ksk_t1]
  unfold ksk_tree
  have na0 := PySem.W.copyHeap_at s.heap its
  obtain ⟨e1, na1⟩ : ∃ e1, ((PySem.W.copyHeap s.heap its).update (s.heap.objs.size + 1) (Obj.mapSeq fun _ => (#[] : Array Value))).get? (s.heap.objs.size + 1) = some (seqObj "list" #[] e1) := ⟨_, get?_update_seq na0 fun _ => #[]⟩
  have sb := Heap.SameBut.update (PySem.W.copyHeap s.heap its) (s.heap.objs.size + 1) (Obj.mapSeq fun _ => (#[] : Array Value))
  refine wpAny_bind (listItems_at na0 rfl ?_)
  refine wpAny_bind (listUpdate_at na0 rfl ?_ (by rw [List.size_toArray]; exact hz) (Nat.zero_le _))
  refine wpAny_bind (seqEpoch_at na1 rfl ?_)
  refine wpAny_bind (wpAny_newTuple ?_ (by show its.length ≤ _; exact hz))
  refine wpAny_bind (wpAny_newList ?_ (Nat.zero_le _))
  refine wpAny_holding ?_
  have old : ∀ b o, s.heap.get? b = some o → ((((PySem.W.copyHeap s.heap its).update (s.heap.objs.size + 1) (Obj.mapSeq fun _ => (#[] : Array Value))).push (seqObj "tuple" its.toArray 0)).push (seqObj "list" #[] 0)).get? b = some o := fun b o e =>
    Heap.get?_push_of_some _ (Heap.get?_push_of_some _ ((sb.2 b (Nat.ne_of_lt (Nat.lt_succ_of_lt (Heap.lt_size e)))).trans (PySem.W.copyHeap_old e)))
  have big : s.heap.objs.size + 1 < (PySem.W.copyHeap s.heap its).objs.size := Heap.lt_size na0
  have hkS : (((PySem.W.copyHeap s.heap its).update (s.heap.objs.size + 1) (Obj.mapSeq fun _ => (#[] : Array Value))).push (seqObj "tuple" its.toArray 0)).objs.size = (PySem.W.copyHeap s.heap its).objs.size + 1 := by rw [size_push', Heap.size_update]
  have ltS : s.heap.objs.size + 1 < (((PySem.W.copyHeap s.heap its).update (s.heap.objs.size + 1) (Obj.mapSeq fun _ => (#[] : Array Value))).push (seqObj "tuple" its.toArray 0)).objs.size := by
    rw [hkS]
    omega
  have le1 : s.heap.objs.size ≤ s.heap.objs.size + 1 := Nat.le_succ _
  have le2 : s.heap.objs.size ≤ (((PySem.W.copyHeap s.heap its).update (s.heap.objs.size + 1) (Obj.mapSeq fun _ => (#[] : Array Value))).push (seqObj "tuple" its.toArray 0)).objs.size := by rw [hkS]; omega
  refine keyI_rest (A := X.A.in1.in1) (E := E') (by show X.A.frames = some X.stack; exact I.ok.frames) room.in1.in1 F em bd ok (I.kept (t' := s.toks) old) (I.fpOk le1 (I.hok.fresh le1)) (I.fpOk le2 (I.hok.fresh le2)) (Nat.ne_of_gt ltS) rx
    (Heap.get?_push_size _ rfl) (Heap.get?_push_of_some _ (Heap.get?_push_of_some _ na1)) hz hal hsk (fun d hd' => ?_) fun s' H' I' sm ha => ⟨rfl, ?_⟩
  · obtain ⟨x, hx, rfl⟩ := List.mem_map.mp hd'
    have := hdp x hx
    show X.A.units + 1 + 1 + (kd x).depth < cLine
    omega
  · exact ⟨.ref _, _, I', rfl, q H' _ sm ha⟩
end
section
variable {X : Cx} {e : Expr} {ta : TE} {C g : Addr} {m : Str} {pos : Pos}
/-- o.m as a value -/
def tBound (C : Addr) (m : Str) (g : Addr) (ta : TE) : TE := fun σ H Q => ta σ H fun x H1 => ∃ a dx fs, x = .ref a ∧ H1 a = some (.ins C dx fs) ∧ fs.lookup m = none ∧ ∀ q, H1 q = none → Q (.ref q) (upd H1 q (.met g a))
theorem pe_bound (he : PE X e ta) (c : Cls X.K C) (k : BMeth X.K C m g) (hb : attributeBase e m X.env (eval e X.env) = eval e X.env) : PE X (.Attribute e m pos) (tBound C m g ta) := by
  refine ⟨fun pins s σ H Q I h => ?_⟩
  refine attr_of hb (thn (he.run pins s σ H _ I h) fun u s1 ⟨x, H1, I1, rx, a, dx, fs, ex, ea, l, q⟩ => ?_)
  subst ex
  exact op_getbound I1 ea c k l rx q
end
end Xsm
set_option Elab.async false
set_option linter.all false
set_option maxRecDepth 100000
set_option maxHeartbeats 4000000
set_option pp.maxSteps 400
set_option pp.deepTerms false
/-! sorted of data of any one kind: of a list, of a tuple, of a dict's key tuples -/
namespace Xsd
open PySem PySem.Spec PyProof.Rows L2 Xsm
theorem each_pairs {h : Heap} {R : V → Value → Prop} {xs : List V} {vs : List Value} (r : Vals xs vs) : PySem.W.EachIs (fun v x => RelV x v) vs xs := vals_each r
theorem each_fst {α : Type} (f : α → V) : ∀ {bs : List α} {vs : List Value}, Vals (bs.map f) vs → PySem.W.EachIs (fun v b => RelV (f b) v) vs bs
  | [], _, h => by cases h; exact .nil
  | b :: bs, _, h => by cases h with | cons r t => exact .cons r (each_fst f t)
theorem fst_each {α : Type} (f : α → V) : ∀ {bs : List α} {vs : List Value}, PySem.W.EachIs (fun v b => RelV (f b) v) vs bs → Vals (bs.map f) vs
  | _, _, .nil => .nil
  | _, _, .cons r t => .cons r (fst_each f t)
theorem each_and {α : Type} {R S : Value → α → Prop} : ∀ {bs : List α} {vs : List Value}, PySem.W.EachIs R vs bs → (∀ v b, b ∈ bs → R v b → S v b) → PySem.W.EachIs S vs bs
  | _, _, .nil, _ => .nil
  | _, _, .cons r t, h => .cons (h _ _ List.mem_cons_self r) (each_and t fun v b m q => h v b (List.mem_cons_of_mem _ m) q)
section
variable {X : Cx} {k : Nat}
/-- what a pair's second says of its first -/
abbrev Pd := V × PyData
def rSortD (K : PySem.W.Frag) : List V → Hp → VK → Prop := fun vs H Q => ∃ (l : Addr) (bs : List Pd), vs = [.ref l] ∧ (SqL K H l (bs.map (·.1)) ∨ SqT K H l (bs.map (·.1))) ∧ (∀ b ∈ bs, Dp K H b.1 b.2) ∧ PySem.W.AllAlike (bs.map (·.2)) ∧ PySem.W.Sortable (bs.map (·.2)) ∧ (∀ b ∈ bs, b.2.depth ≤ 50) ∧
  ∀ a, H a = none → Q (.ref a) (upd H a (.lst ((bs.mergeSort (PySem.W.dataLe false fun b : Pd => b.2)).map (·.1))))
theorem cr_sortD (room : Room (k + 2) X.A) : CallR X (.builtin "sorted") (rSortD X.K) := by
  intro pins s σ H vs us Q I r h
  obtain ⟨l, bs, rfl, hq, hdp, hal, hsk, hde, q⟩ := h
  obtain ⟨u, rfl, ru⟩ := vals1 r
  cases ru
  obtain ⟨T, o, its, n, hT, ho, hc, hd, rx, hz⟩ : ∃ (T : String) (o : Obj) (its : List Value) (n : Nat), (T = "list" ∨ T = "tuple") ∧ s.heap.get? l = some o ∧ o.cls = .type T ∧ o.data = .seq its.toArray n ∧ Vals (bs.map (·.1)) its ∧ its.length ≤ sizeLine := by
    rcases hq with hq | hq
    · obtain ⟨its, r, ⟨o, n, ho, hc, _, hd⟩, hz⟩ := I.list hq
      exact ⟨"list", o, its, n, .inl rfl, ho, hc, hd, r, by rw [← r.length]; exact hz⟩
    · obtain ⟨its, r, ⟨o, ho, hc, n, hd⟩, hz⟩ := I.tuple hq
      exact ⟨"tuple", o, its, n, .inr rfl, ho, hc, hd, r, by rw [← r.length]; exact hz⟩
  have hu := room.units
  have old : ∀ b o, s.heap.get? b = some o → (PySem.W.sortingHeap (PySem.W.copyHeap s.heap its) (s.heap.objs.size + 1) its).get? b = some o := fun b o e => PySem.W.sorting_copy_old e
  have I2 := I.kept (t' := s.toks) old
  have er : PySem.W.EachIs (fun v b => ∃ as, Reads (PySem.W.sortingHeap (PySem.W.copyHeap s.heap its) (s.heap.objs.size + 1) its) v b.2 as) its bs := each_and (each_fst (·.1) rx) fun v b m rb => Dp.reads I2 b.2 b.1 v (hdp b m) rb
  refine sorted_seq ho hT hc hd hz (args_sorted1 _) (fun _ => args_list_sort _) fun E' => ?_
  refine PySem.W.list_sort_vals (s := { s with heap := PySem.W.copyHeap s.heap its }) (PySem.W.copyHeap_at s.heap its) (PySem.W.SortsAt.data (ds := bs.map (·.2)) (PySem.W.each_map (R := fun v d => ∃ as, Reads (PySem.W.sortingHeap (PySem.W.copyHeap s.heap its) (s.heap.objs.size + 1) its) v d as) (fun b : Pd => b.2) er) hal hsk fun d hd' => ?_) hz ⟨rfl, ?_⟩
  · obtain ⟨x, hx, rfl⟩ := List.mem_map.mp hd'
    have := hde x hx
    show X.A.units + 1 + 1 + x.2.depth < cLine
    omega
  have out := PySem.W.sortVals_data (enc := fun b : Pd => b.2) false (each_fst (·.1) rx) er hal
  obtain ⟨ep, hat⟩ := PyProof.Rows.sortedAll_at s.heap its (PySem.W.sortVals (PySem.W.dataKind (PySem.W.sortingHeap (PySem.W.copyHeap s.heap its) (s.heap.objs.size + 1) its) (bs.map (·.2))) false its its).toArray
  have le1 : s.heap.objs.size ≤ s.heap.objs.size + 1 := Nat.le_succ _
  have lz : ((bs.mergeSort (PySem.W.dataLe false fun b : Pd => b.2)).map (·.1)).length ≤ sizeLine := by
    rw [List.length_map, List.length_mergeSort]
    have := rx.length
    rw [List.length_map] at this
    omega
  exact ⟨.ref _, _, I.laid (o := .lst ((bs.mergeSort (PySem.W.dataLe false fun b : Pd => b.2)).map fun b : Pd => b.1)) (t' := s.toks) (fun b o e => PyProof.Rows.sortedAll_old e) le1 ⟨lz, _, ep, fst_each (fun b : Pd => b.1) out, hat⟩, rfl, q _ (I.hok.fresh le1)⟩
/-! ### of a dict's key tuples -/
def kyD : Key → PyData
  | .inl i => .int i
  | .inr x => .str x
def kyT (k : List Key) : PyData := .tuple (k.map kyD)
theorem dp_key {K : PySem.W.Frag} {H : Hp} : ∀ k : List Key, DpAll K H (k.map kV) (k.map kyD)
  | [] => .nil
  | .inl i :: r => .cons (.int i) (dp_key r)
  | .inr x :: r => .cons (.str x) (dp_key r)
/-- sorted of what a dict gives -/
theorem sorted_src {prog : Program} {w : World} {A : Around} {E : Value → Shared → Prop} {s : Shared} {T : String} {r d : Addr} {n : Nat} {P : Nat → Value → Prop} {OK : Heap → Prop} {Q : Value → Shared → Prop}
    (K : PySem.W.KdlSrc prog w T r d n P OK) (hh : A.handled = none) (hok : OK s.heap) (hn : n ≤ sizeLine)
    (body : ∀ (h' : Heap) (tk : Nat) (acc : List Value), (∀ b o, s.heap.get? b = some o → h'.get? b = some o) → acc.length = n → (∀ j v, acc[j]? = some v → P j v) → ∀ E' : Value → Shared → Prop,
      wpAny (model prog w) A.in1.in1 (Builtin.«list.sort» ⟨[.ref h'.objs.size], []⟩) (fun f s' => f = .done (.ret .none) ∧ Q (.ref h'.objs.size) s') E' { s with heap := h'.push (seqObj "list" acc.toArray 0), toks := tk }) :
    wpAny (model prog w) A (call (.builtin "sorted") [.ref r]) Q E s := by
  refine PySem.Calls.call_function_entry kind_sorted plain_sorted entry_sorted (args_sorted1 _) ?_
  unfold Builtin.«sorted»
  refine wpAny_bind (m := checkCount "sorted" 1 1 _) (wpAny_pure ?_)
  refine wpAny_bind (PySem.W.kdu_collect (A := A.in1) K hh hok hn fun h' tk acc hk it => ?_)
  have la : acc.toList.length = n := by rw [Array.length_toList]; exact it.1
  refine wpAny_bind (wpAny_newList ?_ (by rw [la]; exact hn))
  have at_ : (h'.push (seqObj "list" acc.toList.toArray 0)).get? h'.objs.size = some (seqObj "list" acc.toList.toArray 0) := Heap.get?_push_size _ rfl
  refine wpAny_bind (wpAny_holding (wpAny_call_entry_kw (kw := []) slot_list_sort ⟨_, at_, rfl⟩ entry_list_sort ?b (args_list_sort _)))
  case b =>
    refine wpAny_mono (body h' tk acc.toList hk la (fun j v e => it.2 j v (by rw [← Array.getElem?_toList]; exact e)) _) (fun f s' hf => ?_) fun _ _ e => e
    obtain ⟨rfl, hq⟩ := hf
    exact ⟨_, rfl, wpAny_pure ⟨_, rfl, hq⟩⟩
/-- what is tracked is there -/
theorem is_there {P : Program} {w : World} {H : Hp} {h : Heap} {a : Addr} : ∀ {u : HO}, ObjOk P w H h a u → ∃ o, h.get? a = some o
  | .lst _, y => (fun ⟨_, _, _, _, e⟩ => ⟨_, e⟩) y
  | .tup _, y => (fun ⟨_, _, _, o, e, _⟩ => ⟨o, e⟩) y
  | .dK _, y => (fun ⟨_, _, _, _, o, _, _, e, _⟩ => ⟨o, e⟩) y
  | .dT _, y => (fun ⟨_, _, _, _, o, _, _, e, _⟩ => ⟨o, e⟩) y
  | .set _ _, y => (fun ⟨o, _, _, _, e, _⟩ => ⟨o, e⟩) y
  | .ins _ _ _, y => (fun ⟨_, _, _, e, _⟩ => ⟨_, e⟩) y
  | .own _, y => y
  | .xd _, y => (fun ⟨_, ⟨o, _, _, e, _⟩, _⟩ => ⟨o, e⟩) y
  | .met _ _, y => ⟨_, y⟩
  | .rng _ _, y => (fun ⟨_, _, _, e⟩ => ⟨_, e⟩) y
  | .frz _ _, y => ⟨_, y.1⟩
  | .tbl _, y => ⟨_, y⟩
  | .ext _, y => y.2.1
theorem paired_mem {α β : Type} {F : α → β → Prop} : ∀ {as : List α} {bs : List β}, Paired F as bs → ∀ b ∈ bs, ∃ a ∈ as, F a b
  | _, _, .nil, b, m => by cases m
  | _, _, .cons h t, b, m => by
    rcases List.mem_cons.mp m with rfl | m
    · exact ⟨_, List.mem_cons_self, h⟩
    · obtain ⟨a, ma, f⟩ := paired_mem t b m
      exact ⟨a, List.mem_cons_of_mem _ ma, f⟩
theorem paired_map {α β γ : Type} {F : α → β → Prop} {f : α → γ} {g : β → γ} (h : ∀ a b, F a b → f a = g b) : ∀ {as : List α} {bs : List β}, Paired F as bs → as.map f = bs.map g
  | _, _, .nil => rfl
  | _, _, .cons p t => by rw [List.map_cons, List.map_cons, h _ _ p, paired_map h t]
abbrev Kb := List Key × Addr
def rSortK : List V → Hp → VK → Prop := fun vs H Q => ∃ (d : Addr) (kvs : List (List Key × V)), vs = [.ref d] ∧ Rd H d (.dT kvs) ∧ PySem.W.AllAlike (kvs.map fun p => kyT p.1) ∧ PySem.W.Sortable (kvs.map fun p => kyT p.1) ∧ (∀ p ∈ kvs, (kyT p.1).depth ≤ 50) ∧
  ∀ (a : Addr) (bs : List Kb), H a = none → (∀ b ∈ bs, H b.2 = some (.tup (b.1.map kV))) → bs.map (·.1) = (kvs.map (·.1)).mergeSort (PySem.W.dataLe false kyT) → Q (.ref a) (upd H a (.lst (bs.map fun b => .ref b.2)))
theorem cr_sortK (hc : X.calm = true) (room : Room (k + 2) X.A) : CallR X (.builtin "sorted") rSortK := by
  intro pins s σ H vs us Q I r h
  obtain ⟨d, kvs, rfl, hd, hal, hsk, hde, q⟩ := h
  obtain ⟨u, rfl, ru⟩ := vals1 r
  cases ru
  have hu := room.units
  obtain ⟨z, hs, ks, pr, o, es, ep, ho, hx, hdt, he, hn⟩ := (show ObjOk X.prog X.w H s.heap d (.dT kvs) from hd.ok I.hok)
  have l1 : es.size = ks.length := size_of_entries he
  have l2 : kvs.length = ks.length := Paired.length pr
  obtain ⟨b0, eb0⟩ : ∃ b0 : List Kb, b0 = ks.map fun x => (x.1, x.2.1) := ⟨_, rfl⟩
  have lb : b0.length = ks.length := by rw [eb0, List.length_map]
  have ek : kvs.map (·.1) = b0.map (·.1) := by
    rw [eb0, List.map_map]
    exact paired_map (fun a b f => f.1) pr
  have eky : (kvs.map fun p => kyT p.1) = b0.map fun b => kyT b.1 := by
    have := congrArg (List.map kyT) ek
    rw [List.map_map, List.map_map] at this
    exact this
  have hb0 : ∀ b ∈ b0, H b.2 = some (.tup (b.1.map kV)) := fun b mb => by
    rw [eb0] at mb
    obtain ⟨x, mx, rfl⟩ := List.mem_map.mp mb
    obtain ⟨p, _, f1, f2, _⟩ := paired_mem pr x mx
    show H x.2.1 = some (.tup (x.1.map kV))
    rw [← f1]
    exact f2
  refine sorted_src (kdl_raw hs hx hdt) (I.ok.hd hc) ho (by omega) fun h' tk acc old la hP E' => ?_
  have rx : Vals (b0.map fun b => V.ref b.2) acc := by
    have e : acc = (b0.map fun b : Kb => b.2).map Value.ref := by
      refine List.ext_getElem? fun j => ?_
      by_cases hj : j < acc.length
      · have hj2 : j < ks.length := by omega
        obtain ⟨en, h1, h2⟩ := hP j acc[j] (List.getElem?_eq_getElem hj)
        have h3 := entry_at he j
        rw [h1, List.getElem?_eq_getElem hj2] at h3
        rw [List.getElem?_eq_getElem hj, h2, Option.some.inj h3, eb0, List.map_map, List.getElem?_map, List.getElem?_map, List.getElem?_eq_getElem hj2]
        rfl
      · rw [List.getElem?_eq_none (by omega), List.getElem?_eq_none (by rw [List.length_map, List.length_map]; omega)]
    rw [e, show (b0.map fun b : Kb => V.ref b.2) = (b0.map fun b : Kb => b.2).map V.ref by rw [List.map_map]; rfl]
    exact vals_refs _
  have at_ : (h'.push (seqObj "list" acc.toArray 0)).get? h'.objs.size = some (seqObj "list" acc.toArray 0) := Heap.get?_push_size _ rfl
  have old1 : ∀ b o, s.heap.get? b = some o → (h'.push (seqObj "list" acc.toArray 0)).get? b = some o := fun b o e => Heap.get?_push_of_some _ (old b o e)
  have old2 : ∀ b o, s.heap.get? b = some o → (PySem.W.sortingHeap (h'.push (seqObj "list" acc.toArray 0)) h'.objs.size acc).get? b = some o := fun b o e => PySem.W.sortingHeap_old (Nat.ne_of_lt (Heap.lt_size (old b o e))) (old1 b o e)
  have I2 := I.kept (t' := s.toks) old2
  have dp0 : ∀ b ∈ b0, Dp X.K H (.ref b.2) (kyT b.1) := fun b mb => .tup (SqT.of (hb0 b mb)) (dp_key b.1)
  have er : PySem.W.EachIs (fun v (b : Kb) => ∃ as, Reads (PySem.W.sortingHeap (h'.push (seqObj "list" acc.toArray 0)) h'.objs.size acc) v (kyT b.1) as) acc b0 := each_and (each_fst (fun b : Kb => V.ref b.2) rx) fun v b m rb => Dp.reads I2 (kyT b.1) (.ref b.2) v (dp0 b m) rb
  rw [eky] at hal hsk
  have hz : acc.length ≤ sizeLine := by omega
  refine PySem.W.list_sort_vals (s := { s with heap := h'.push (seqObj "list" acc.toArray 0), toks := tk }) at_ (PySem.W.SortsAt.data (ds := b0.map fun b => kyT b.1) (PySem.W.each_map (R := fun v d => ∃ as, Reads (PySem.W.sortingHeap (h'.push (seqObj "list" acc.toArray 0)) h'.objs.size acc) v d as) (fun b : Kb => kyT b.1) er) hal hsk fun d hd' => ?_) hz ⟨rfl, ?_⟩
  · rw [← eky] at hd'
    obtain ⟨x, hx, rfl⟩ := List.mem_map.mp hd'
    have := hde x hx
    show X.A.units + 1 + 1 + (kyT x.1).depth < cLine
    omega
  have out := PySem.W.sortVals_data (enc := fun b : Kb => kyT b.1) false (each_fst (fun b : Kb => V.ref b.2) rx) er hal
  obtain ⟨ep2, hat⟩ := PyProof.Rows.sortedHeap_at (out := (PySem.W.sortVals (PySem.W.dataKind (PySem.W.sortingHeap (h'.push (seqObj "list" acc.toArray 0)) h'.objs.size acc) (b0.map fun b => kyT b.1)) false acc acc).toArray) at_
  have gone : s.heap.get? h'.objs.size = none := by
    cases e' : s.heap.get? h'.objs.size with
    | none => rfl
    | some o' => exact absurd (Heap.lt_size (old _ _ e')) (Nat.lt_irrefl _)
  have free : H h'.objs.size = none := by
    cases e' : H h'.objs.size with
    | none => rfl
    | some u' =>
      obtain ⟨o', e2⟩ := is_there (I.hok _ _ e')
      rw [gone] at e2
      cases e2
  have lz : ((b0.mergeSort (PySem.W.dataLe false fun b : Kb => kyT b.1)).map fun b : Kb => V.ref b.2).length ≤ sizeLine := by
    rw [List.length_map, List.length_mergeSort]
    omega
  refine ⟨.ref _, _, I.laidN (o := .lst ((b0.mergeSort (PySem.W.dataLe false fun b : Kb => kyT b.1)).map fun b : Kb => V.ref b.2)) (t' := tk) (fun b o e => ?_) gone free ⟨lz, _, ep2, fst_each (fun b : Kb => V.ref b.2) out, hat⟩, rfl, q _ _ free (fun b mb => hb0 b (List.mem_mergeSort.mp mb)) ?_⟩
  · have lt := Heap.lt_size (old1 b o e)
    rw [PyProof.Rows.sortedHeap_old (Nat.ne_of_lt (Heap.lt_size (old b o e))) lt]
    exact old1 b o e
  · rw [ek]
    exact List.map_mergeSort fun a _ b _ => rfl
/-! ### in, of a tuple of data -/
def rInTD (K : PySem.W.Frag) : R2 := fun x y H Q => ∃ d ds, Dp K H x d ∧ Dp K H y (.tuple ds) ∧ SeqAt.shaped d = true ∧ SeqAt.shaped (.tuple ds) = true ∧ Q (.bl (ds.any fun z => PyData.eqv z d)) H
theorem op_inTD (hu : X.A.units + 65 < cLine) : OpR X (compareOp .In) (rInTD X.K) := fun pins s σ H x y v u Q I rx ry ⟨d, ds, hd, he, sd, se, q⟩ =>
  let ⟨_, r1⟩ := Dp.reads I d x v hd rx
  let ⟨_, r2⟩ := Dp.reads I (.tuple ds) y u he ry
  SeqAt.in_tuple_reads r2 r1 (SeqAt.canLay_of_shaped se) (SeqAt.canLay_of_shaped sd) (room_in_shaped sd hu) ⟨.bl _, H, I, rfl, q⟩
end
end Xsd
set_option Elab.async false
set_option linter.all false
set_option maxRecDepth 100000
set_option maxHeartbeats 4000000
set_option pp.maxSteps 400
set_option pp.deepTerms false
namespace K21
open PySem PySem.Spec PyProof.Rows L2
open Xk Az
def top (i : Nat) : Stmt := PySem.Challenge.pw_takesworks_k21_rules_of_anything.main.body.getD i (.Pass ⟨0, 0, 0, 0⟩)
abbrev sIsField : Stmt := top 6
abbrev sIsRule : Stmt := top 7
abbrev sAreRising : Stmt := top 2
abbrev sAreUnlike : Stmt := top 1
abbrev sAreRules : Stmt := top 8
abbrev sHand : Stmt := top 10
abbrev sTake : Stmt := top 11
abbrev sPick : Stmt := top 12
abbrev sLawRules : Stmt := top 13
abbrev sLawAreRules : Stmt := top 14
abbrev sDeep : Stmt := top 15
abbrev sBent : Stmt := top 16
abbrev sLaw : Stmt := top 17
theorem scIsField : FnScope ["thing"] ["thing"] (defScope sIsField) := ⟨rfl, rfl, rfl, by decide +kernel, rfl, by decide +kernel, by decide +kernel⟩
theorem scIsRule : FnScope ["thing", "field"] ["thing"] (defScope sIsRule) := ⟨rfl, rfl, rfl, by decide +kernel, rfl, by decide +kernel, by decide +kernel⟩
theorem scAreRising : FnScope ["things", "one", "other"] ["things"] (defScope sAreRising) := ⟨rfl, rfl, rfl, by decide +kernel, rfl, by decide +kernel, by decide +kernel⟩
theorem scAreUnlike : FnScope ["things"] ["things"] (defScope sAreUnlike) := ⟨rfl, rfl, rfl, by decide +kernel, rfl, by decide +kernel, by decide +kernel⟩
theorem scAreRules : FnScope ["thing", "rule"] ["thing"] (defScope sAreRules) := ⟨rfl, rfl, rfl, by decide +kernel, rfl, by decide +kernel, by decide +kernel⟩
theorem scHand : FnScope ["_law_script", "_law_own", "_law_mixed", "_law_cell"] ["_law_script"] (defScope sHand) := ⟨rfl, rfl, rfl, by decide +kernel, rfl, by decide +kernel, by decide +kernel⟩
theorem scTake : FnScope ["_law_hand_here", "_law_many", "_law_digit", "_law_once", "_law_twice"] ["_law_hand_here", "_law_many"] (defScope sTake) := ⟨rfl, rfl, rfl, by decide +kernel, rfl, by decide +kernel, by decide +kernel⟩
theorem scPick : FnScope ["_law_hand_here", "_law_some"] ["_law_hand_here", "_law_some"] (defScope sPick) := ⟨rfl, rfl, rfl, by decide +kernel, rfl, by decide +kernel, by decide +kernel⟩
theorem scLawRules : FnScope ["_law_hand_here", "_law_found", "_law_turn", "_law_any_code", "_law_code", "_law_fields", "_law_rule", "_law_at", "_law_field"] ["_law_hand_here"] (defScope sLawRules) := ⟨rfl, rfl, rfl, by decide +kernel, rfl, by decide +kernel, by decide +kernel⟩
theorem scLawAreRules : FnScope ["_law_thing", "_law_fields", "_law_rule", "_law_field"] ["_law_thing"] (defScope sLawAreRules) := ⟨rfl, rfl, rfl, by decide +kernel, rfl, by decide +kernel, by decide +kernel⟩
theorem scDeep : FnScope ["_law_hand_here", "_law_thing", "_law_turn"] ["_law_hand_here"] (defScope sDeep) := ⟨rfl, rfl, rfl, by decide +kernel, rfl, by decide +kernel, by decide +kernel⟩
theorem scBent : FnScope ["_law_hand_here", "_law_thing", "_law_deep_here", "_law_fields", "_law_odd", "_law_at", "_law_way", "_law_some"] ["_law_hand_here", "_law_thing", "_law_deep_here"] (defScope sBent) := ⟨rfl, rfl, rfl, by decide +kernel, rfl, by decide +kernel, by decide +kernel⟩
theorem scLaw : FnScope ["_law_script", "_law_hand_here", "_law_turn", "_law_some", "_law_again", "_law_thing", "_law_kept", "_law_found", "_law_six"] ["_law_script"] (defScope sLaw) := ⟨rfl, rfl, rfl, by decide +kernel, rfl, by decide +kernel, by decide +kernel⟩
def offS (A : List Addr) (H : Hp) : Hp := fun b => if b ∈ A then none else H b
theorem offS_all {A : List Addr} {H : Hp} : L2.Same (offS A H) H := fun b o e => by
  unfold offS at e
  split at e
  · cases e
  · exact e
theorem offS_at {A : List Addr} {H : Hp} {p : Addr} {o : HO} (n : p ∉ A) (e : H p = some o) : offS A H p = some o := by
  unfold offS
  rw [if_neg n, e]
theorem offS_upd {A : List Addr} {H : Hp} {p : Addr} {o : HO} (m : p ∈ A) : L2.Same (offS A H) (offS A (upd H p o)) := fun b x e => by
  unfold offS at e
  split at e
  · cases e
  · rename_i n
    exact offS_at n (by rw [upd_ne (show b ≠ p from fun z => n (by rw [z]; exact m))]; exact e)
theorem offS_less {A B : List Addr} {H : Hp} (s : ∀ b ∈ B, b ∈ A) : L2.Same (offS A H) (offS B H) := fun b x e => by
  unfold offS at e
  split at e
  · cases e
  · rename_i n
    exact offS_at (fun m => n (s b m)) e
theorem new_off {A : List Addr} {H : Hp} {p : Addr} (ex : ∀ a ∈ A, H a ≠ none) (np : H p = none) : p ∉ A := fun m => ex p m np
theorem exS {A : List Addr} {H H' : Hp} (ex : ∀ a ∈ A, H a ≠ none) (s : L2.Same H H') : ∀ a ∈ A, H' a ≠ none := fun a m z => by
  cases e : H a with
  | none => exact ex a m e
  | some o =>
    rw [s a o e] at z
    cases z
theorem same_upd {H : Hp} {p : Addr} {o : HO} (h : H p = none) : L2.Same H (upd H p o) := fun b x e => by
  rw [upd_ne (ne_of_none e h)]
  exact e
def Bt (A : List Addr) (H H' : Hp) : Prop := ∀ b x, b ∉ A → H b = some x → H' b = some x
theorem Bt.refl (A : List Addr) (H : Hp) : Bt A H H := fun _ _ _ e => e
theorem Bt.trans {A : List Addr} {H H1 H2 : Hp} (p : Bt A H H1) (q : Bt A H1 H2) : Bt A H H2 := fun b o n e => q b o n (p b o n e)
theorem Bt.of {A : List Addr} {H H' : Hp} (s : L2.Same H H') : Bt A H H' := fun b o _ e => s b o e
theorem Bt.off {A : List Addr} {H H' : Hp} (s : Bt A H H') : L2.Same (offS A H) (offS A H') := fun b o e => by
  unfold offS at e
  split at e
  · cases e
  · rename_i n
    exact offS_at n (s b o n e)
/-- a hand: where it stands, where its own numbers stand -/
def Hd (h o : Addr) (n : Int) (H : Hp) : Prop := ∃ (gs : List Int) (m c : Int), H h = some (.lst [.ref o, .int m, .int c]) ∧ H o = some (.lst (gs.map V.int)) ∧ o ≠ h ∧ (∀ g ∈ gs, 0 ≤ g) ∧ gs.length ≤ 63 ∧ 0 ≤ m ∧ m < 2305843009213693951 ∧ 0 ≤ c ∧ c ≤ n
theorem Hd.mono {h o : Addr} {n n' : Int} {H : Hp} (a : Hd h o n H) (l : n ≤ n') : Hd h o n' H := by
  obtain ⟨gs, m, c, r1, r2, r3, r4, r5, r6, r7, r8, r9⟩ := a
  exact ⟨gs, m, c, r1, r2, r3, r4, r5, r6, r7, r8, Int.le_trans r9 l⟩
theorem Hd.same {h o : Addr} {n : Int} {H H' : Hp} (a : Hd h o n H) (s : L2.Same H H') : Hd h o n H' := by
  obtain ⟨gs, m, c, r1, r2, r⟩ := a
  exact ⟨gs, m, c, s _ _ r1, s _ _ r2, r⟩
theorem Hd.upd {h o p : Addr} {n : Int} {H : Hp} {x : HO} (a : Hd h o n H) (np : p ∉ [h, o]) : Hd h o n (L2.upd H p x) := by
  obtain ⟨gs, m, c, r1, r2, r⟩ := a
  have q1 : h ≠ p := fun z => np (by rw [z]; simp)
  have q2 : o ≠ p := fun z => np (by rw [z]; simp)
  exact ⟨gs, m, c, by rw [upd_ne q1]; exact r1, by rw [upd_ne q2]; exact r2, r⟩
theorem Hd.here {h o : Addr} {n : Int} {H : Hp} (a : Hd h o n H) : ∀ b ∈ [h, o], H b ≠ none := fun b mb z => by
  obtain ⟨gs, m, c, r1, r2, r⟩ := a
  simp only [List.mem_cons, List.not_mem_nil, or_false] at mb
  rcases mb with e | e
  · rw [e, r1] at z; cases z
  · rw [e, r2] at z; cases z
theorem Hd.fresh {h o p : Addr} {n : Int} {H : Hp} (a : Hd h o n H) (np : H p = none) : p ∉ [h, o] := fun m => a.here p m np
end K21
set_option Elab.async false
set_option linter.all false
set_option maxRecDepth 100000
set_option maxHeartbeats 4000000
set_option pp.maxSteps 400
set_option pp.deepTerms false
namespace K21
open PySem PySem.Spec PyProof.Rows L2
open Xk Az
section
variable {P : Program} {w : World} {K : PySem.W.Frag} {mg : Str → Option Value} {base : Heap}
/-- a def that may be called by its name -/
structure Ca (P : Program) (w : World) (K : PySem.W.Frag) (mg : Str → Option Value) (base : Heap) (k : Nat) (x : Str) (ps : List Str) (sp : Sp) : Prop where
  ex : ∃ (f : Addr) (fd : FuncData), FnOk P w K mg base CX0 k f fd ps sp ∧ mg x = some (.ref f) ∧ PySem.W.keepIn K (.ref f) = true ∧ Binds K fd ps []
/-- a def of the text, as the head finds it -/
structure Df (K : PySem.W.Frag) (mg : Str → Option Value) (x : Str) (ps : List Str) (st : Stmt) (f : Addr) (fd : FuncData) : Prop where
  fn : Fun K x x st f fd
  mgf : mg x = some (.ref f)
  bd : Binds K fd ps []
theorem Df.ca {k : Nat} {x : Str} {ps : List Str} {st : Stmt} {f : Addr} {fd : FuncData} {sp : Sp} (d : Df K mg x ps st f fd)
    (h : FnOk P w K mg base CX0 k f fd ps sp) : Ca P w K mg base k x ps sp := ⟨f, fd, h, d.mgf, d.fn.kp, d.bd⟩
section
variable {X : Cx} {k j : Nat} {x : Str} {ps : List Str} {sp : Sp} {p pos : Pos} {e : Expr} {es : List Expr} {t : TA}
theorem pe_ca (c : Ca X.prog X.w X.K X.mg X.base k x ps sp) (hr : Room j X.A) (hk : k ≤ j) (hg : Gl X x) (ha : PA X (e :: es) t) (hdb : (x == ("__debug__" : Str)) = false := by decide)
    (he : starEach (e :: es) X.env = (false, eval e X.env) :: starEach es X.env := by rfl) (hpl : (backTo pos (starEach es X.env)).any (·.1) = false := by rfl) :
    PE X (.Call (.Name x p) (e :: es) [] pos) (tCall sp [] E0 t) := by
  obtain ⟨f, fd, F, hm, kp, b⟩ := c.ex
  exact pe_call F (hr.mono hk) hg hm kp b .nil pass0 ha hdb he hpl
end
def fields : List Str := ["code", "title", "players", "day", "length"]
def SqG (K : PySem.W.Frag) (g : Addr) : Prop := ∀ H : Hp, SqT K H g (fields.map V.str)
/-- what the top has left, besides the defs -/
structure Txt (K : PySem.W.Frag) (mg : Str → Option Value) : Prop where
  mr : ∃ t, mg "MOST_RULES" = some (.int 6 t)
  fl : ∃ g, mg "FIELDS" = some (.ref g) ∧ (∃ o, K.lookup g = some o ∧ o.cls = .type "tuple" ∧ o.dict = none) ∧ SqG K g
  isi : mg "isinstance" = none
  str : mg "str" = none
  tuple : mg "tuple" = none
  len : mg "len" = none
  all : mg "all" = none
  range : mg "range" = none
  repr : mg "repr" = none
  list : mg "list" = none
  max : mg "max" = none
  min : mg "min" = none
  bool : mg "bool" = none
  set : mg "set" = none
  zip : mg "zip" = none
  enumerate : mg "enumerate" = none
  int : mg "int" = none
  any : mg "any" = none
  sorted : mg "sorted" = none
abbrev far : Int := 1000000
def spHand (K : PySem.W.Frag) : Sp := fun vs H Q _ => ∃ (a : Addr) (ns : List Int), vs = [.ref a] ∧ SqL K H a (ns.map V.int) ∧ ns.length ≤ 63 ∧ ∀ h o H', Hd h o 0 H' → L2.Same H H' → H h = none → H o = none → Q (.ref h) H'
def spTake : Sp := fun vs H Q _ => ∃ (h o : Addr) (many n : Int), vs = [.ref h, .int many] ∧ 0 < many ∧ many < 1000000 ∧ Hd h o n H ∧ n ≤ far ∧
  ∀ d H', 0 ≤ d → d < many → Hd h o (n + 1) H' → Bt [h, o] H H' → Q (.int d) H'
theorem dpAll_ints {H : Hp} : ∀ gs : List Int, DpAll K H (gs.map V.int) (gs.map PyData.int)
  | [] => .nil
  | g :: r => .cons (.int g) (dpAll_ints r)
theorem lay_ints : ∀ gs : List Int, PyData.canLayAll0 (gs.map PyData.int) = true
  | [] => by simp [PyData.canLayAll0]
  | g :: r => by simp [PyData.canLayAll0, PyData.canLay0, lay_ints r]
theorem depth_ints : ∀ gs : List Int, PyData.depthAll (gs.map PyData.int) ≤ 1
  | [] => by simp [PyData.depthAll]
  | g :: r => by
    have := depth_ints r
    simp only [List.map_cons, PyData.depthAll, PyData.depth]
    omega
theorem shaped_ints (gs : List Int) : SeqAt.shaped (.list (gs.map PyData.int)) = true := by
  unfold SeqAt.shaped
  have := depth_ints gs
  have h1 : (PyData.list (gs.map PyData.int)).canLay0 = true := by simp only [PyData.canLay0]; exact lay_ints gs
  have h2 : (PyData.list (gs.map PyData.int)).depth ≤ 64 := by simp only [PyData.depth]; omega
  rw [h1, decide_eq_true h2]
  rfl
theorem eqv_nil : PyData.eqv (.list (([] : List Int).map PyData.int)) (.list []) = true := by simp [PyData.eqv, PyData.eqvAll]
theorem eqv_cons (g : Int) (r : List Int) : PyData.eqv (.list ((g :: r).map PyData.int)) (.list []) = false := by simp [PyData.eqv, PyData.eqvAll]
theorem ixN_nat {n j : Nat} (h : j < n) : ixN n (j : Int) = some j := by
  unfold ixN
  rw [if_pos (by omega), if_pos (by omega)]
  simp
theorem wide30 {g many : Int} (m1 : 0 < many) (m2 : many < 1000000) : CDivW g many := by
  have h : (1000000 : Int) < 2 ^ 110 := by decide
  exact wide_div (b := 110) m1 (by omega) (by decide) (by decide)
theorem ok_take {f : Addr} {fd : FuncData} (D : Df K mg "_law_take" ["_law_hand_here", "_law_many"] sTake f fd)  : FnOk P w K mg base CX0 1 f fd ["_law_hand_here", "_law_many"] spTake := by
  refine D.fn.ok scTake (fun vs H Q E h => ?_) (fun cdv A outer s H vs Q E hr h => ?_)
  · obtain ⟨h, o, many, n, rfl, m1, m2, hd, hn, q⟩ := h
    rfl
  · obtain ⟨h, o, many, n, rfl, m1, m2, hd, hn, q⟩ := h
    refine ⟨_, (pss_cons (ps_asg (pe_op op_add (pe_ix ix_list (pv 0) pe_int (fun _ _ => rfl)) pe_int) (pg_sub (pv 0) pe_int set_list))
      (pss_cons (ps_while PassesOwn.never (PW.pt (pw_and (pt_cmpR (op_neD hr.units) (pe_ix ix_list (pv 0) pe_int (fun _ _ => rfl)) (pe_lst pa_nil) (nomark _)) (pw_and1 (pt_cmpR op_eq (pe_ix ix_list (pe_ix ix_list (pv 0) pe_int (fun _ _ => rfl)) pe_int (fun _ _ => rfl)) pe_int (nomark _))))) (pss_one (ps_expr (pe_bm PySem.F.plainAttrs_list PySem.F.slot_list_pop PySem.F.type_list_pop mt_popAt (pe_ix ix_list (pv 0) pe_int (fun _ _ => rfl)) (pa_cons pe_int pa_nil)))))
      (pss_cons (ps_if (pt_cmpR (op_neD hr.units) (pe_ix ix_list (pv 0) pe_int (fun _ _ => rfl)) (pe_lst pa_nil) (nomark _)) (pss_cons (ps_set (i := 2) scTake.nd rfl (.inl rfl) (pe_op op_mod (pe_ix ix_list (pe_ix ix_list (pv 0) pe_int (fun _ _ => rfl)) pe_int (fun _ _ => rfl)) (pv 1)))
      (pss_cons (ps_asg (pe_op op_fdivW (pe_ix ix_list (pe_ix ix_list (pv 0) pe_int (fun _ _ => rfl)) pe_int (fun _ _ => rfl)) (pv 1)) (pg_sub (pe_ix ix_list (pv 0) pe_int (fun _ _ => rfl)) pe_int set_list))
      (pss_one (ps_ret (pv 2))))) pss_nil)
      (pss_cons (ps_set (i := 3) scTake.nd rfl (.inl rfl) (pe_op op_mod (pe_op op_mul (pe_op op_add (pe_ix ix_list (pv 0) pe_int (fun _ _ => rfl)) (pe_op op_mul pe_int (pe_ix ix_list (pv 0) pe_int (fun _ _ => rfl)))) pe_int) pe_int))
      (pss_cons (ps_set (i := 4) scTake.nd rfl (.inl rfl) (pe_op op_add (pe_op op_mul (pv 3) (pe_op op_add (pe_op op_fdiv (pv 3) pe_int) pe_int)) (pe_op op_mul (pe_ix ix_list (pv 0) pe_int (fun _ _ => rfl)) (pe_ix ix_list (pv 0) pe_int (fun _ _ => rfl)))))
      (pss_one (ps_ret (pe_op op_mod (pe_op op_fdiv (pe_op op_mod (pv 4) pe_int) pe_int) (pv 1))))))))), ?_⟩
    obtain ⟨gs, m, c, eh, eo, oh, g0, gl, k0, k1, c0, c1⟩ := hd
    have far' : n ≤ 1000000 := hn
    refine ⟨_, rfl, h, _, 2, _, rfl, rfl, SqL.of eh, atI_nat (j := 2) rfl, c, 1, rfl, rfl, _, rfl, h, _, 2, 2, rfl, rfl, eh, rfl, ?_⟩
    have eh2 : (upd H h (.lst [.ref o, .int m, .int (c + 1)])) h = some (.lst [.ref o, .int m, .int (c + 1)]) := upd_same
    have eo2 : (upd H h (.lst [.ref o, .int m, .int (c + 1)])) o = some (.lst (gs.map V.int)) := by rw [upd_ne oh]; exact eo
    have b2 : Bt [h, o] H (upd H h (.lst [.ref o, .int m, .int (c + 1)])) := fun b x nb e => by
      rw [upd_ne (fun z => nb (by rw [z]; simp))]
      exact e
    have dl : ∀ {Hi : Hp} {gs : List Int}, Hi o = some (.lst (gs.map V.int)) → Dp K Hi (.ref o) (.list (gs.map PyData.int)) := fun {Hi gs} e => .lst (SqL.of e) (dpAll_ints gs)
    refine ⟨fun k σ Hi => ∃ gs' : List Int, σ = [some (.ref h), some (.int many), none, none, none] ∧ Hi h = some (.lst [.ref o, .int m, .int (c + 1)]) ∧ Hi o = some (.lst (gs'.map V.int)) ∧ (∀ g ∈ gs', 0 ≤ g) ∧ gs'.length ≤ 63 ∧ gs'.length = k ∧ Bt [h, o] H Hi, ⟨_, gs, rfl, eh2, eo2, g0, gl, rfl, b2⟩, ?_⟩
    rintro k σ Hi ⟨gs', rfl, ehi, eoi, gi0, gil, gik, bi⟩
    refine ⟨_, rfl, h, _, 0, .ref o, rfl, rfl, SqL.of ehi, atI_nat (j := 0) rfl, (by show 0 ≤ sizeLine; decide), fun l nl => ?_⟩
    have s1 := same_upd nl (o := .lst [])
    refine ⟨_, _, dl (s1 _ _ eoi), .lst (SqL.of upd_same) .nil, shaped_ints _, rfl, ?_⟩
    have ehl := s1 _ _ ehi
    have eol := s1 _ _ eoi
    have bl := bi.trans (Bt.of s1)
    clear eh eo eh2 eo2 b2 ehi eoi
    generalize upd Hi l (.lst []) = Hl at ehl eol bl ⊢
    cases gs' with
    | nil =>
      refine ⟨false, by rw [eqv_nil]; rfl, iteF ?_⟩
      refine ⟨_, rfl, h, _, 0, .ref o, rfl, rfl, SqL.of ehl, atI_nat (j := 0) rfl, (by show 0 ≤ sizeLine; decide), fun l2 nl2 => ?_⟩
      have s2 := same_upd nl2 (o := .lst [])
      have eh3 := s2 _ _ ehl
      have eo3 := s2 _ _ eol
      have b3 := bl.trans (Bt.of s2)
      refine ⟨_, _, dl eo3, .lst (SqL.of upd_same) .nil, shaped_ints _, rfl, false, by rw [eqv_nil]; rfl, iteF ?_⟩
      generalize upd Hl l2 (.lst []) = H3 at eh3 eo3 b3 ⊢
      have sq := SqL.of (K := K) eh3
      refine ⟨_, rfl, h, _, 1, _, rfl, rfl, sq, atI_nat (j := 1) rfl, _, rfl, h, _, 2, _, rfl, rfl, sq, atI_nat (j := 2) rfl, 104729, c + 1, rfl, rfl, .inl (by decide), m, _, rfl, rfl, _, 6364136223846793005, rfl, rfl, .inr (by decide), _, 2305843009213693921, rfl, rfl, (by show (0 : Int) < 2305843009213693921; decide), ?_⟩
      generalize (m + 104729 * (c + 1)) * 6364136223846793005 = z
      have z0 : 0 ≤ z % 2305843009213693921 := Int.emod_nonneg _ (by decide)
      have z1 : z % 2305843009213693921 < 2305843009213693921 := Int.emod_lt_of_pos _ (by decide)
      refine ⟨_, rfl, _, rfl, _, 1000003, rfl, rfl, ⟨by decide, by decide⟩, _, 3, rfl, rfl, _, _, rfl, rfl, .inl (by omega), _, rfl, h, _, 2, _, rfl, rfl, sq, atI_nat (j := 2) rfl, _, rfl, h, _, 2, _, rfl, rfl, sq, atI_nat (j := 2) rfl, c + 1, c + 1, rfl, rfl, .inl (by omega), _, _, rfl, rfl, ?_⟩
      refine ⟨_, rfl, _, 2305843009213693907, rfl, rfl, (by show (0 : Int) < 2305843009213693907; decide), _, 8191, rfl, rfl, ⟨by decide, by decide⟩, _, rfl, _, many, rfl, rfl, m1, ?_⟩
      exact q _ _ (Int.emod_nonneg _ (by omega)) (Int.emod_lt_of_pos _ m1) ⟨[], m, c + 1, eh3, eo3, oh, gi0, by simp, k0, k1, by omega, by omega⟩ b3
    | cons g r =>
      refine ⟨true, by rw [eqv_cons]; rfl, iteT ?_⟩
      refine ⟨_, rfl, h, _, 0, .ref o, rfl, rfl, SqL.of ehl, atI_nat (j := 0) rfl, o, _, 0, .int g, rfl, rfl, SqL.of eol, atI_nat (j := 0) rfl, rfl, _, rfl, ite2 (fun e => ?_) (fun e => ?_)⟩
      · refine ⟨fun σ' H' => ∃ gs' : List Int, σ' = [some (.ref h), some (.int many), none, none, none] ∧ H' h = some (.lst [.ref o, .int m, .int (c + 1)]) ∧ H' o = some (.lst (gs'.map V.int)) ∧ (∀ g ∈ gs', 0 ≤ g) ∧ gs'.length ≤ 63 ∧ gs'.length = r.length ∧ Bt [h, o] H H', fun σ' H' w => ⟨r.length, by rw [← gik]; simp, w⟩, ?_⟩
        refine ⟨_, rfl, h, _, 0, .ref o, rfl, rfl, SqL.of ehl, atI_nat (j := 0) rfl, (.inl ⟨rfl, _, SqL.of eol⟩), ?_⟩
        refine ⟨o, _, 0, 0, .int g, rfl, rfl, eol, by decide, by decide, seqIndex_of (by decide) (by simp), rfl, ?_⟩
        refine ⟨r, rfl, by rw [upd_ne (Ne.symm oh)]; exact ehl, upd_same, fun x hx => gi0 x (List.mem_cons_of_mem _ hx), by simp at gil; omega, rfl, fun b x nb e => ?_⟩
        rw [upd_ne (fun z => nb (by rw [z]; simp))]
        exact bl b x nb e
      · refine ⟨_, rfl, h, _, 0, .ref o, rfl, rfl, SqL.of ehl, atI_nat (j := 0) rfl, (by show 0 ≤ sizeLine; decide), fun l2 nl2 => ?_⟩
        have s2 := same_upd nl2 (o := .lst [])
        have eh3 := s2 _ _ ehl
        have eo3 := s2 _ _ eol
        have b3 := bl.trans (Bt.of s2)
        refine ⟨_, _, dl eo3, .lst (SqL.of upd_same) .nil, shaped_ints _, rfl, true, by rw [eqv_cons]; rfl, iteT ?_⟩
        generalize upd Hl l2 (.lst []) = H3 at eh3 eo3 b3 ⊢
        have sq := SqL.of (K := K) eh3
        have so := SqL.of (K := K) eo3
        refine ⟨_, rfl, h, _, 0, .ref o, rfl, rfl, sq, atI_nat (j := 0) rfl, o, _, 0, .int g, rfl, rfl, so, atI_nat (j := 0) rfl, _, rfl, g, many, rfl, rfl, m1, ?_⟩
        refine ⟨_, rfl, h, _, 0, .ref o, rfl, rfl, sq, atI_nat (j := 0) rfl, o, _, 0, .int g, rfl, rfl, so, atI_nat (j := 0) rfl, _, rfl, g, many, rfl, rfl, wide30 m1 m2, ?_⟩
        refine ⟨_, rfl, h, _, 0, .ref o, rfl, rfl, sq, atI_nat (j := 0) rfl, o, _, 0, 0, rfl, rfl, eo3, ixN_nat (j := 0) (by simp), ?_⟩
        refine ⟨_, rfl, q _ _ (Int.emod_nonneg _ (by omega)) (Int.emod_lt_of_pos _ m1) ⟨g / many :: r, m, c + 1, by rw [upd_ne (Ne.symm oh)]; exact eh3, upd_same, oh, ?_, by simp at gil ⊢; omega, k0, k1, by omega, by omega⟩ fun b x nb e => ?_⟩
        · intro x hx
          rcases List.mem_cons.mp hx with e | e
          · rw [e]
            exact Int.ediv_nonneg (gi0 g List.mem_cons_self) (by omega)
          · exact gi0 x (List.mem_cons_of_mem _ e)
        · rw [upd_ne (fun z => nb (by rw [z]; simp))]
          exact b3 b x nb e
theorem cut_ints (ns : List Int) (lo hi : Option Int) : cutV (ns.map V.int) lo hi = ((ns.drop (HT.sIx ns.length 0 lo)).take (HT.sIx ns.length ns.length hi - HT.sIx ns.length 0 lo)).map V.int := by
  unfold cutV
  rw [List.length_map, List.map_take, List.map_drop]
theorem cut_len (ns : List Int) (lo hi : Option Int) : ((ns.drop (HT.sIx ns.length 0 lo)).take (HT.sIx ns.length ns.length hi - HT.sIx ns.length 0 lo)).length ≤ ns.length := by
  rw [List.length_take, List.length_drop]
  omega
theorem ok_hand {f : Addr} {fd : FuncData} (D : Df K mg "_law_hand" ["_law_script"] sHand f fd) (T : Txt K mg) : FnOk P w K mg base CX0 1 f fd ["_law_script"] (spHand K) := by
  refine D.fn.ok scHand (fun vs H Q E h => ?_) (fun cdv A outer s H vs Q E hr h => ?_)
  · obtain ⟨a, ns, rfl, hS, nl, q⟩ := h
    rfl
  · obtain ⟨a, ns, rfl, hS, nl, q⟩ := h
    refine ⟨_, (pss_cons (ps_par (i := 1) (j := 2) (by rfl) scHand.nd rfl rfl (by decide) rfl rfl (pa_cons (pe_lst pa_nil) (pa_cons (pe_op op_add pe_int (pe_op op_mul pe_int (pe_callB call_len_seq (by rfl) T.len PySem.boot_len (pa_cons (pv 0) pa_nil)))) pa_nil)) (by rfl))
      (pss_cons (ps_for PassesOwn.never rfl (pi_list (pe_slice sl_list (pv 0) po_none (po_some pe_int))) (pg_name (i := 3) scHand.nd rfl (.inl rfl)) (pss_cons (ps_set (i := 2) scHand.nd rfl (.inl rfl) (pe_op op_mod (pe_op op_add (pe_op op_add (pe_op op_mul (pv 2) pe_int) (pe_op op_mod (pv 3) pe_int)) pe_int) pe_int))
      (pss_one (ps_if (pt_cmpR op_ge (pv 3) (pe_op op_pow pe_int pe_int) (nomark _)) (pss_one (ps_expr (pe_bm PySem.F.plainAttrs_list PySem.F.slot_list_append PySem.F.type_list_append mt_append (pv 1) (pa_cons (pv 3) pa_nil)))) pss_nil))))
      (pss_one (ps_ret (pe_lst (pa_cons (pv 1) (pa_cons (pv 2) (pa_cons pe_int pa_nil)))))))), ?_⟩
    refine ⟨(by show 0 ≤ sizeLine; decide), fun o no => ?_⟩
    have s0 := same_upd no (o := .lst [])
    refine ⟨_, rfl, a, _, rfl, .inl (Same.seq s0 hS), 31, _, rfl, rfl, .inl (by decide), 7, _, rfl, rfl, _, _, rfl, ?_⟩
    refine ⟨_, rfl, 60, rfl, a, _, rfl, Same.seq s0 hS, fun l nl2 => ⟨l, rfl, ⟨_, SqL.of upd_same⟩, ?_⟩⟩
    have s1 := same_upd nl2 (o := .lst (cutV (ns.map V.int) none (some 60)))
    have el : (upd (upd H o (.lst [])) l (.lst (cutV (ns.map V.int) none (some 60)))) l = some (.lst (cutV (ns.map V.int) none (some 60))) := upd_same
    have eo : (upd (upd H o (.lst [])) l (.lst (cutV (ns.map V.int) none (some 60)))) o = some (.lst []) := s1 _ _ upd_same
    have sA := s0.trans s1
    have ol : l ≠ o := fun z => by
      rw [z, upd_same] at nl2
      cases nl2
    obtain ⟨ms, ems, lms⟩ : ∃ ms : List Int, cutV (ns.map V.int) none (some 60) = ms.map V.int ∧ ms.length ≤ 63 := ⟨_, cut_ints ns none (some 60), Nat.le_trans (cut_len ns none (some 60)) nl⟩
    rw [ems] at el eo sA ⊢
    generalize upd (upd H o (.lst [])) l (.lst (ms.map V.int)) = H1 at el eo sA ⊢
    refine for_list (K := K) (a := l) (xs := ms.map V.int) (fun i σ Hi => ∃ (gs : List Int) (m : Int) (c3 : Option V), σ = [some (.ref a), some (.ref o), some (.int m), c3] ∧ Hi o = some (.lst (gs.map V.int)) ∧ gs.length ≤ i ∧ (∀ g ∈ gs, 0 ≤ g) ∧ 0 ≤ m ∧ m < 2305843009213693951 ∧ (∀ b x, b ≠ o → H1 b = some x → Hi b = some x)) ?_ ?_ ?_ ?_
    · refine ⟨[], _, none, rfl, eo, Nat.le_refl _, by simp, ?_, ?_, fun b x _ e => e⟩
      · rw [List.length_map]; omega
      · rw [List.length_map]; omega
    · rintro i σ Hi _ ⟨gs, m, c3, _, _, _, _, _, _, k⟩
      exact SqL.of (k _ _ ol el)
    · rintro i x σ Hi hx ⟨gs, m, c3, rfl, eoi, gl, g0, m0, m1, k⟩
      rw [List.getElem?_map] at hx
      obtain ⟨g, eg, rfl⟩ := Option.map_eq_some_iff.mp hx
      have il : i < ms.length := (List.getElem?_eq_some_iff.mp eg).1
      refine ⟨_, rfl, m, 1000003, rfl, rfl, .inr (by decide), _, rfl, g, 2305843009213693907, rfl, rfl, (by show (0 : Int) < 2305843009213693907; decide), _, _, rfl, rfl, _, 11, rfl, rfl, _, 2305843009213693951, rfl, rfl, (by show (0 : Int) < 2305843009213693951; decide), ?_⟩
      have p0 := Int.emod_nonneg (m * 1000003 + g % 2305843009213693907 + 11) (b := 2305843009213693951) (by decide)
      have p1 := Int.emod_lt_of_pos (m * 1000003 + g % 2305843009213693907 + 11) (b := 2305843009213693951) (by decide)
      refine ⟨_, rfl, 10, 18, rfl, rfl, ⟨by decide, by decide, by decide⟩, g, _, rfl, rfl, _, rfl, ite2 (fun e => ?_) (fun e => ?_)⟩
      · have e' : (10 : Int) ^ (18 : Int).toNat ≤ g := of_decide_eq_true e
        have g00 : 0 ≤ g := Int.le_trans (by decide) e'
        refine ⟨_, rfl, .inl ⟨rfl, _, SqL.of eoi⟩, _, rfl, o, _, _, rfl, rfl, eoi, ?_, ?_⟩
        · rw [List.length_map]
          exact Nat.lt_of_le_of_lt (show gs.length ≤ 100 by omega) (by decide)
        · refine ⟨gs ++ [g], _, _, rfl, by rw [upd_same, List.map_append]; rfl, by rw [List.length_append]; exact Nat.add_le_add_right gl 1, ?_, p0, p1, fun b x nb e => by rw [upd_ne nb]; exact k b x nb e⟩
          intro x hx
          rcases List.mem_append.mp hx with h | h
          · exact g0 x h
          · rw [List.mem_singleton.mp h]; exact g00
      · exact ⟨gs, _, _, rfl, eoi, Nat.le_succ_of_le gl, g0, p0, p1, k⟩
    · rintro σ Hi ⟨gs, m, c3, rfl, eoi, gl, g0, m0, m1, k⟩
      refine ⟨_, rfl, _, rfl, (by show 3 ≤ sizeLine; decide), fun h nh => ?_⟩
      have oh : o ≠ h := fun z => by
        rw [← z, eoi] at nh
        cases nh
      rw [List.length_map] at gl
      have sF : L2.Same H (upd Hi h (.lst [.ref o, .int m, .int 0])) := fun b x e => by
        have bo : b ≠ o := ne_of_none e no
        exact same_upd nh _ _ (k b x bo (sA b x e))
      refine q h o _ ⟨gs, m, 0, upd_same, by rw [upd_ne oh]; exact eoi, oh, g0, by omega, m0, m1, by omega, by omega⟩ sF ?_ no
      cases z : H h with
      | none => rfl
      | some x =>
        have w := k h x (Ne.symm oh) (sA h x z)
        rw [w] at nh
        cases nh
end
end K21
set_option Elab.async false
set_option linter.all false
set_option maxRecDepth 100000
set_option maxHeartbeats 4000000
set_option pp.maxSteps 400
set_option pp.deepTerms false
namespace K21
open PySem PySem.Spec PyProof.Rows L2
open Xk Az
section
variable {P : Program} {w : World} {K : PySem.W.Frag} {mg : Str → Option Value} {base : Heap}
section
variable {X : Cx}
theorem cr_alt {f : Value} {r1 r2 : List V → Hp → VK → Prop} (h1 : CallR X f r1) (h2 : CallR X f r2) : CallR X f (fun xs H Q => r1 xs H Q ∨ r2 xs H Q) :=
  fun pins s σ H xs us Q I r h => h.elim (h1 pins s σ H xs us Q I r) (h2 pins s σ H xs us Q I r)
end
def spPick : Sp := fun vs H Q _ => ∃ (h o : Addr) (n : Int) (s : V), vs = [.ref h, s] ∧ Hd h o n H ∧ n ≤ far ∧
  ((∃ (l : Addr) (xs : List V), s = .ref l ∧ H l = some (.lst xs) ∧ l ∉ [h, o] ∧ xs ≠ [] ∧ xs.length < 1000 ∧ ∀ v H', v ∈ xs → Hd h o (n + 1) H' → Bt [h, o] H H' → Q v H') ∨
   (∃ x : Str, s = .str x ∧ 0 < x.length ∧ x.length < 1000 ∧ ∀ c H', c ∈ x.cps.toList → Hd h o (n + 1) H' → Bt [h, o] H H' → Q (.str ⟨#[c]⟩) H'))
theorem ok_pick {f : Addr} {fd : FuncData} (D : Df K mg "_law_pick" ["_law_hand_here", "_law_some"] sPick f fd) (T : Txt K mg) (cT : Ca P w K mg base 1 "_law_take" ["_law_hand_here", "_law_many"] spTake) : FnOk P w K mg base CX0 2 f fd ["_law_hand_here", "_law_some"] spPick := by
  refine D.fn.ok scPick (fun vs H Q E h => ?_) (fun cdv A outer s H vs Q E hr h => ?_)
  · obtain ⟨h, o, n, s, rfl, hd, hn, q⟩ := h
    rfl
  · obtain ⟨h, o, n, s, rfl, hd, hn, q⟩ := h
    refine ⟨_, (pss_one (ps_ret (pe_ix ix_seq (pv 1) (pe_ca cT hr (by decide) (by rfl) (pa_cons (pv 0) (pa_cons (pe_callB (cr_alt call_len_seq call_len_str) (by rfl) T.len PySem.boot_len (pa_cons (pv 1) pa_nil)) pa_nil))) (fun _ _ => rfl)))), ?_⟩
    refine ⟨_, rfl, _, rfl, _, rfl, ?_⟩
    rcases q with ⟨l, xs, rfl, hl, nl, ne, few, q⟩ | ⟨x, rfl, pos, few, q⟩
    · have pos : 0 < xs.length := List.length_pos_iff.mpr ne
      refine .inl ⟨l, xs, rfl, .inl (SqL.of hl), h, o, (xs.length : Int), n, rfl, by omega, by omega, hd, hn, fun d H' d0 d1 hh' bt => ?_⟩
      obtain ⟨j, rfl⟩ : ∃ j : Nat, d = (j : Int) := ⟨d.toNat, by omega⟩
      have hj : j < xs.length := by omega
      refine .inl ⟨l, xs, _, xs[j], rfl, rfl, SqL.of (bt _ _ nl hl), atI_nat (List.getElem?_eq_getElem hj), ?_⟩
      exact q _ H' (List.getElem_mem hj) hh' bt
    · have sz : x.length ≤ sizeLine := Nat.le_trans (show x.length ≤ 1000 by omega) (by decide)
      refine .inr ⟨x, rfl, sz, h, o, (x.length : Int), n, rfl, by omega, by omega, hd, hn, fun d H' d0 d1 hh' bt => ?_⟩
      obtain ⟨j, rfl⟩ : ∃ j : Nat, d = (j : Int) := ⟨d.toNat, by omega⟩
      have hj : j < x.cps.toList.length := by
        have : x.length = x.cps.toList.length := by rw [Array.length_toList]; rfl
        omega
      refine .inr (.inr ⟨x, _, x.cps.toList[j], rfl, rfl, sz, atI_nat (List.getElem?_eq_getElem hj), ?_⟩)
      exact q _ H' (List.getElem_mem hj) hh' bt
end
end K21
set_option Elab.async false
set_option linter.all false
set_option maxRecDepth 100000
set_option maxHeartbeats 4000000
set_option pp.maxSteps 400
set_option pp.deepTerms false
namespace K21
open PySem PySem.Spec PyProof.Rows L2
open Xk Az
section
variable {P : Program} {w : World} {K : PySem.W.Frag} {mg : Str → Option Value} {base : Heap}
def isStr : PyData → Bool
  | .str _ => true
  | _ => false
def isTup : PyData → Bool
  | .tuple _ => true
  | _ => false
theorem z_str : ∀ d : PyData, PySem.W.kitOne K (.type (kindD d)) (.type "str") = some (isStr d)
  | .none => kit_ty (a := "NoneType") (b := "str") (r := false) (by decide +kernel)
  | .bool _ => kit_ty (a := "bool") (b := "str") (r := false) (by decide +kernel)
  | .int _ => kit_ty (a := "int") (b := "str") (r := false) (by decide +kernel)
  | .str _ => kit_ty (a := "str") (b := "str") (r := true) (by decide +kernel)
  | .list _ => kit_ty (a := "list") (b := "str") (r := false) (by decide +kernel)
  | .tuple _ => kit_ty (a := "tuple") (b := "str") (r := false) (by decide +kernel)
  | .dict _ => kit_ty (a := "dict") (b := "str") (r := false) (by decide +kernel)
theorem z_tup : ∀ d : PyData, PySem.W.kitOne K (.type (kindD d)) (.type "tuple") = some (isTup d)
  | .none => kit_ty (a := "NoneType") (b := "tuple") (r := false) (by decide +kernel)
  | .bool _ => kit_ty (a := "bool") (b := "tuple") (r := false) (by decide +kernel)
  | .int _ => kit_ty (a := "int") (b := "tuple") (r := false) (by decide +kernel)
  | .str _ => kit_ty (a := "str") (b := "tuple") (r := false) (by decide +kernel)
  | .list _ => kit_ty (a := "list") (b := "tuple") (r := false) (by decide +kernel)
  | .tuple _ => kit_ty (a := "tuple") (b := "tuple") (r := true) (by decide +kernel)
  | .dict _ => kit_ty (a := "dict") (b := "tuple") (r := false) (by decide +kernel)
/-- the texts among these -/
def txs : List PyData → List Str
  | [] => []
  | .str x :: r => x :: txs r
  | _ :: r => txs r
def fieldD : PyData → Bool
  | .str x => decide (x ∈ fields)
  | _ => false
def fIx (x : Str) : Nat := fields.findIdx fun y => decide (y = x)
def bsR (ns : List Int) : List Bool := (List.range (ns.length - 1)).map fun i => decide (ns.getD i 0 < ns.getD (i + 1) 0)
def ris (ns : List Int) : Bool := (bsR ns).all id
theorem bsR_at {ns : List Int} {i : Nat} {x y : Int} (e1 : ns[i]? = some x) (e2 : (ns.drop 1)[i]? = some y) : (bsR ns)[i]? = some (decide (x < y)) := by
  rw [List.getElem?_drop, Nat.add_comm] at e2
  have h2 := (List.getElem?_eq_some_iff.mp e2).1
  unfold bsR
  rw [List.getElem?_map, List.getElem?_range (by omega)]
  simp [List.getD_eq_getElem?_getD, e1, e2]
theorem cut1 (xs : List V) : cutV xs (some 1) none = xs.drop 1 := by
  unfold cutV
  have e1 : HT.sIx xs.length 0 (some 1) = min 1 xs.length := HT.sIx_nat xs.length 0 1
  have e2 : HT.sIx xs.length xs.length none = xs.length := rfl
  rw [e1, e2]
  cases xs with
  | nil => rfl
  | cons x r =>
    rw [show min 1 (x :: r).length = 1 by simp]
    exact List.take_of_length_le (by simp)
def ixs (ds : List PyData) : List Int := (txs ds).map fun x => ((fIx x : Nat) : Int)
def ruleD : PyData → Bool
  | .tuple ds => !ds.isEmpty && ds.all fieldD && ris (ixs ds)
  | _ => false
def tks : PyData → List Key
  | .tuple es => (txs es).map Sum.inr
  | _ => []
def rulesD : PyData → Bool
  | .tuple ds => decide (1 ≤ ds.length) && decide (ds.length ≤ 6) && ds.all ruleD && decide (ds.map tks).Nodup
  | _ => false
def spIf (K : PySem.W.Frag) : Sp := fun vs H Q _ => ∃ (v : V) (d : PyData), vs = [v] ∧ Dz K H v d ∧ Q (.bl (fieldD d)) H
def spRis : Sp := fun vs H Q _ => ∃ (a : Addr) (ns : List Int), vs = [.ref a] ∧ H a = some (.lst (ns.map V.int)) ∧ ns.length ≤ 1000 ∧ ∀ H', L2.Same H H' → Q (.bl (ris ns)) H'
def spIr (K : PySem.W.Frag) : Sp := fun vs H Q _ => ∃ (v : V) (d : PyData), vs = [v] ∧ Dz K H v d ∧ W08.nc d ≤ 1000 ∧ ∀ H', L2.Same H H' → Q (.bl (ruleD d)) H'
def spUn (K : PySem.W.Frag) : Sp := fun vs H Q _ => ∃ (l : Addr) (ks : List (Addr × List Key)), vs = [.ref l] ∧ SqT K H l (ks.map fun p => V.ref p.1) ∧ (∀ p ∈ ks, SqT K H p.1 (p.2.map kV)) ∧ ks.length < 64 ∧ Q (.bl (decide (ks.map (·.2)).Nodup)) H
def spAr (K : PySem.W.Frag) : Sp := fun vs H Q _ => ∃ (v : V) (d : PyData), vs = [v] ∧ Dz K H v d ∧ W08.nc d ≤ 1000 ∧ ∀ H', L2.Same H H' → Q (.bl (rulesD d)) H'
theorem eqV_str (y x : Str) : eqV (.str y) (.str x) = decide (y = x) := by
  unfold eqV
  first | rfl | simp
theorem inV_strs (x : Str) (ys : List Str) : inV (.str x) (ys.map V.str) = decide (x ∈ ys) := by
  induction ys with
  | nil => rfl
  | cons y r ih =>
    unfold inV at ih ⊢
    simp only [List.map_cons, List.any_cons, ih, List.mem_cons]
    have ey : eqV (.str y) (.str x) = decide (y = x) := eqV_str y x
    rw [ey]
    by_cases e : x = y
    · simp [e]
    · simp [e, Ne.symm e]
theorem kV_strs (xs : List Str) : ((xs.map Sum.inr : List Key)).map kV = xs.map V.str := by
  rw [List.map_map]
  rfl
theorem txs_all {K : PySem.W.Frag} {H : Hp} : ∀ {xs : List V} {ds : List PyData}, DzAll K H xs ds → ds.all isStr = true → xs = (txs ds).map V.str
  | [], [], .nil, _ => rfl
  | v :: xs, d :: ds, .cons h r, al => by
    rw [List.all_cons, Bool.and_eq_true] at al
    have ih := txs_all r al.2
    cases h with
    | str x => rw [ih]; rfl
    | _ => cases al.1
theorem field_str {d : PyData} (h : fieldD d = true) : ∃ x, d = .str x ∧ x ∈ fields := by
  cases d with
  | str x => exact ⟨x, rfl, of_decide_eq_true h⟩
  | _ => cases h
theorem fields_str {ds : List PyData} (h : ds.all fieldD = true) : ds.all isStr = true := List.all_eq_true.mpr fun d hd => by
  obtain ⟨x, rfl, _⟩ := field_str (List.all_eq_true.mp h d hd)
  rfl
theorem txs_fields : ∀ {ds : List PyData}, ds.all fieldD = true → ∀ x ∈ txs ds, x ∈ fields
  | [], _, x, h => by cases h
  | d :: r, al, x, h => by
    rw [List.all_cons, Bool.and_eq_true] at al
    obtain ⟨y, rfl, hy⟩ := field_str al.1
    rcases List.mem_cons.mp h with z | z
    · rw [z]; exact hy
    · exact txs_fields al.2 x z
theorem fIx_at {x : Str} (h : x ∈ fields) : fields[fIx x]? = some x ∧ ∀ m, m < fIx x → fields[m]? ≠ some x := by
  have l : fIx x < fields.length := List.findIdx_lt_length_of_exists ⟨x, h, by simp⟩
  have e := List.findIdx_getElem (xs := fields) (p := fun y => decide (y = x)) (w := l)
  refine ⟨?_, fun m hm z => ?_⟩
  · rw [List.getElem?_eq_getElem l]
    exact congrArg some (of_decide_eq_true e)
  · have := List.not_of_lt_findIdx (xs := fields) (p := fun y => decide (y = x)) hm
    obtain ⟨hl, e2⟩ := List.getElem?_eq_some_iff.mp z
    simp [e2] at this
theorem ok_if {f : Addr} {fd : FuncData} (D : Df K mg "is_field" ["thing"] sIsField f fd) (T : Txt K mg) : FnOk P w K mg base CX0 1 f fd ["thing"] (spIf K) := by
  obtain ⟨gF, gf, gl, sf⟩ := T.fl
  refine D.fn.ok scIsField (fun vs H Q E h => ?_) (fun cdv A outer s H vs Q E hr h => ?_)
  · obtain ⟨v, d, rfl, hz, q⟩ := h
    rfl
  · obtain ⟨v, d, rfl, hz, q⟩ := h
    refine ⟨_, (pss_one (ps_ret (pe_and (pe_callB call_isi (by rfl) T.isi (by decide +kernel) (pa_cons (pv 0) (pa_cons (pe_bltn (v := .ty "str") (by rfl) T.str (by decide +kernel) rfl) pa_nil))) (pe_one (pe_cmpR op_in_seq (pv 0) (pe_glob (v := .ref gF) (by rfl) gf rfl) (by rfl)))))), ?_⟩
    refine ⟨_, rfl, _, _, _, _, isStr d, rfl, .ty _, hz.ty, z_str d, _, rfl, ?_⟩
    cases hz with
    | str x =>
      refine iteT ⟨_, rfl, gF, _, rfl, .inr (sf H), rfl, by decide +kernel, ?_⟩
      show Q (.bl (inV (.str x) (fields.map V.str))) H
      rw [inV_strs]
      exact q
    | _ => exact iteF q
theorem ok_ris {f : Addr} {fd : FuncData} (D : Df K mg "are_rising" ["things"] sAreRising f fd) (T : Txt K mg) : FnOk P w K mg base CX0 1 f fd ["things"] spRis := by
  refine D.fn.ok scAreRising (fun vs H Q E h => ?_) (fun cdv A outer s H vs Q E hr h => ?_)
  · obtain ⟨a, ns, rfl, e, l1000, q⟩ := h
    rfl
  · obtain ⟨a, ns, rfl, e, l1000, q⟩ := h
    refine ⟨_, (pss_one (ps_ret (pe_callB (cr_all (by rfl)) (by rfl) T.all (by decide +kernel) (pa_cons (pe_lc (own := [("one", 1), ("other", 2)]) (g := (gTup K 2 (gCons (gName 1) (gCons (gName 2) gNil)))) (tt := tYes) (by rfl) scAreRising.nd (pi_zip (by rfl) T.zip (pa_cons (pv 0) (pa_cons (pe_slice sl_list (pv 0) (po_some pe_int) po_none) pa_nil))) (blkOk_by (own := [("one", 1), ("other", 2)]) (N := ["things", "one", "other"]) (sc := defScope sAreRising) (by decide +kernel)) (fun _ _ _ _ _ => pg_tup (by rfl) (pgs_cons (pg_name (i := 1) scAreRising.nd rfl (.inl rfl)) (pgs_cons (pg_name (i := 2) scAreRising.nd rfl (.inl rfl)) pgs_nil))) (fun _ _ _ _ _ => pts_nil) (fun _ _ _ _ _ => pe_cmpR op_lt (pv 1) (pv 2) (nomark _))) pa_nil)))), ?_⟩
    refine ⟨_, rfl, _, rfl, _, rfl, a, _, rfl, SqL.of e, fun pz nz => ?_⟩
    have c1 : cutV (ns.map V.int) (some 1) none = (ns.drop 1).map V.int := by
      rw [cut1, List.map_drop]
    rw [c1]
    have sz := same_upd nz (o := .lst ((ns.drop 1).map V.int))
    have ez : (L2.upd H pz (.lst ((ns.drop 1).map V.int))) pz = some (.lst ((ns.drop 1).map V.int)) := upd_same
    have e2 := sz _ _ e
    generalize L2.upd H pz (.lst ((ns.drop 1).map V.int)) = Hz at sz ez e2 ⊢
    refine ⟨a, pz, _, _, rfl, SqL.of e2, SqL.of ez, fun Lz nLz => ?_⟩
    refine lc_it (walk_zip (K := K) (a := a) (b := pz) (xs := ns.map V.int) (ys := (ns.drop 1).map V.int) (n := ns.length - 1) (by rw [List.length_map, List.length_map, List.length_drop]; omega)) (fun i Hi => L2.Same Hz Hi ∧ Hi Lz = some (.lst (((bsR ns).take i).map V.bl))) ⟨same_upd nLz, upd_same⟩ (fun i Hi _ p => ⟨SqL.of (p.1 _ _ e2), SqL.of (p.1 _ _ ez)⟩) ?_ ?_
    · rintro i v Hi H' hi ⟨sm, hL⟩ ⟨t, x, z, rfl, nt, rfl, ex, ez'⟩
      have sm2 : L2.Same Hz (upd Hi t (.tup [x, z])) := sm.trans (same_upd nt)
      have hL2 : (upd Hi t (.tup [x, z])) Lz = some (.lst (((bsR ns).take i).map V.bl)) := same_upd nt _ _ hL
      replace ex : (ns.map V.int)[i]? = some x := ex
      replace ez' : ((ns.drop 1).map V.int)[i]? = some z := ez'
      rw [List.getElem?_map] at ex ez'
      obtain ⟨p, ep, rfl⟩ := Option.map_eq_some_iff.mp ex
      obtain ⟨r, er, rfl⟩ := Option.map_eq_some_iff.mp ez'
      refine ⟨t, _, rfl, SqT.of upd_same, rfl, _, _, rfl, _, _, rfl, rfl, rfl, ?_⟩
      unfold tYes
      refine iteT ⟨_, rfl, _, rfl, p, r, rfl, rfl, _, hL2, ?_, fun c o e => ?_, ?_⟩
      · rw [List.length_map, List.length_take]
        exact Nat.lt_of_le_of_lt (Nat.le_trans (Nat.min_le_left _ _) (show i ≤ 1000 by omega)) (by decide)
      · rw [upd_ne (ne_of_none e nLz)]
        exact sm2 _ _ e
      · rw [upd_same, List.take_add_one, bsR_at ep er, List.map_append]
        rfl
    · rintro He ⟨sm, hL⟩
      have tk : (bsR ns).take (ns.length - 1) = bsR ns := List.take_of_length_le (by unfold bsR; simp)
      rw [tk] at hL
      refine ⟨Lz, bsR ns, rfl, SqL.of hL, ?_⟩
      exact q He (sz.trans sm)
theorem ok_un {f : Addr} {fd : FuncData} (D : Df K mg "are_unlike" ["things"] sAreUnlike f fd) (T : Txt K mg) : FnOk P w K mg base CX0 1 f fd ["things"] (spUn K) := by
  refine D.fn.ok scAreUnlike (fun vs H Q E h => ?_) (fun cdv A outer s H vs Q E hr h => ?_)
  · obtain ⟨l, ks, rfl, h, al, few, q⟩ := h
    rfl
  · obtain ⟨l, ks, rfl, h, al, few, q⟩ := h
    refine ⟨_, (pss_one (ps_ret (pe_cmpR op_eq (Xts.pe_lenSetK (by rfl) hr.units (by rfl) T.len (by rfl) T.set (pv 0)) (pe_callB call_len_seq (by rfl) T.len PySem.boot_len (pa_cons (pv 0) pa_nil)) (nomark _)))), ?_⟩
    refine ⟨_, rfl, l, ks, rfl, .inr h, al, few, _, rfl, l, _, rfl, .inr h, rfl, ?_⟩
    have e : decide (V.int ((Xts.unlikeK (ks.map (·.2)) : Nat) : Int) = V.int (((ks.map fun p => V.ref p.1).length : Nat) : Int)) = decide (ks.map (·.2)).Nodup := by
      rw [Bool.eq_iff_iff, decide_eq_true_eq, decide_eq_true_eq, ← Xts.unlikeK_nodup, List.length_map, List.length_map]
      constructor
      · intro z
        injection z with z
        exact Int.ofNat_inj.mp z
      · intro z
        rw [z]
    rw [e]
    exact q
def rIx (K : PySem.W.Frag) : V → List V → Hp → VK → Prop := fun x xs H Q => ∃ p, ∃ ys : List Str, ∃ z j, x = .ref p ∧ xs = [.str z] ∧ SqT K H p (ys.map V.str) ∧ ys[j]? = some z ∧ (∀ m, m < j → ys[m]? ≠ some z) ∧ Q (.int (j : Nat)) H
theorem dz_get {H : Hp} : ∀ {xs : List V} {ds : List PyData} {i : Nat} {x : V}, DzAll K H xs ds → xs[i]? = some x → ∃ d, ds[i]? = some d ∧ Dz K H x d
  | _, _, _, _, .nil, h => by simp at h
  | _, _, 0, _, .cons h _, e => by
    cases e
    exact ⟨_, rfl, h⟩
  | _, _, i + 1, _, .cons _ r, e => dz_get (i := i) r (by simpa using e)
theorem dz_len {H : Hp} : ∀ {xs : List V} {ds : List PyData}, DzAll K H xs ds → xs.length = ds.length
  | _, _, .nil => rfl
  | _, _, .cons _ r => by rw [List.length_cons, List.length_cons, dz_len r]
/-- a tuple of texts alone -/
def strsD : PyData → Bool
  | .tuple es => es.all isStr
  | _ => false
theorem rule_strs {d : PyData} (h : ruleD d = true) : strsD d = true := by
  cases d with
  | tuple es =>
    have h : (!es.isEmpty && es.all fieldD && ris (ixs es)) = true := h
    rw [Bool.and_eq_true, Bool.and_eq_true] at h
    exact fields_str h.1.2
  | _ => cases h
theorem rule_keys {H : Hp} : ∀ {xs : List V} {ds : List PyData}, DzAll K H xs ds → ds.all strsD = true → ∃ ks : List (Addr × List Key), xs = ks.map (fun p => V.ref p.1) ∧ ks.map (·.2) = ds.map tks ∧ ∀ p ∈ ks, SqT K H p.1 (p.2.map kV)
  | _, _, .nil, _ => ⟨[], rfl, rfl, fun p hp => by cases hp⟩
  | v :: xs, d :: ds, .cons h r, al => by
    rw [List.all_cons, Bool.and_eq_true] at al
    obtain ⟨ks, e1, e2, e3⟩ := rule_keys r al.2
    have a1 := al.1
    cases h with
    | @tup t ys es et ra =>
      have ey := txs_all ra a1
      refine ⟨(t, (txs es).map Sum.inr) :: ks, by rw [e1]; rfl, by rw [List.map_cons, List.map_cons, e2]; rfl, fun p hp => ?_⟩
      rcases List.mem_cons.mp hp with z | z
      · rw [z]
        show SqT K H t (((txs es).map Sum.inr : List Key).map kV)
        rw [kV_strs, ← ey]
        exact SqT.of et
      · exact e3 p z
    | _ => cases a1
theorem txs_len : ∀ ds : List PyData, (txs ds).length ≤ ds.length
  | [] => Nat.le_refl _
  | d :: r => by
    have := txs_len r
    cases d <;> simp only [txs, List.length_cons] <;> omega
theorem ok_ir {f : Addr} {fd : FuncData} (D : Df K mg "is_rule" ["thing"] sIsRule f fd) (T : Txt K mg) (cF : Ca P w K mg base 1 "is_field" ["thing"] (spIf K)) (cR : Ca P w K mg base 1 "are_rising" ["things"] spRis) : FnOk P w K mg base CX0 2 f fd ["thing"] (spIr K) := by
  obtain ⟨gF, gf, gl, sf⟩ := T.fl
  refine D.fn.ok scIsRule (fun vs H Q E h => ?_) (fun cdv A outer s H vs Q E hr h => ?_)
  · obtain ⟨v, d, rfl, hz, nc, q⟩ := h
    rfl
  · obtain ⟨v, d, rfl, hz, nc, q⟩ := h
    refine ⟨_, (pss_cons (ps_if (PW.pt (pw_or (pt_not (pt_val (pe_callB call_isi (by rfl) T.isi (by decide +kernel) (pa_cons (pv 0) (pa_cons (pe_bltn (v := .ty "tuple") (by rfl) T.tuple (by decide +kernel) rfl) pa_nil))))) (pw_or (pt_cmpR op_eq (pe_callB call_len_seq (by rfl) T.len PySem.boot_len (pa_cons (pv 0) pa_nil)) pe_int (nomark _)) (pw_or1 (pt_not (pt_val (pe_callB (cr_all (by rfl)) (by rfl) T.all (by decide +kernel) (pa_cons (pe_lc (own := [("field", 1)]) (g := gName 1) (tt := tYes) (te := tCall (spIf K) [] E0 (tCons (tVar 1) tNil)) (by rfl) scIsRule.nd (pi_tup (pv 0)) (blkOk_by (own := [("field", 1)]) (N := ["thing", "field"]) (sc := defScope sIsRule) (by decide +kernel)) (fun _ _ _ _ _ => pg_name (i := 1) scIsRule.nd rfl (.inl rfl)) (fun _ _ _ _ _ => pts_nil) (fun _ _ _ _ _ => pe_ca cF hr (by decide) (by rfl) (pa_cons (pv 1) pa_nil))) pa_nil)))))))) (pss_one (ps_ret pe_bl)) pss_nil)
      (pss_one (ps_ret (pe_ca cR hr (by decide) (by rfl) (pa_cons (pe_lc (own := [("field", 1)]) (g := gName 1) (tt := tYes) (te := tBM K "tuple" (rIx K) (tC (.ref gF)) (tCons (tVar 1) tNil)) (by rfl) scIsRule.nd (pi_tup (pv 0)) (blkOk_by (own := [("field", 1)]) (N := ["thing", "field"]) (sc := defScope sIsRule) (by decide +kernel)) (fun _ _ _ _ _ => pg_name (i := 1) scIsRule.nd rfl (.inl rfl)) (fun _ _ _ _ _ => pts_nil) (fun _ _ _ _ _ => pe_bm PySem.F.plainAttrs_tuple PySem.F.slot_tuple_index PySem.F.type_tuple_index mt_tup_index (pe_glob (v := .ref gF) (by rfl) gf rfl) (pa_cons (pv 1) pa_nil))) pa_nil))))), ?_⟩
    refine ⟨_, rfl, _, _, _, _, isTup d, rfl, .ty _, hz.ty, z_tup d, _, rfl, ?_⟩
    have qf : ruleD d = false → ∀ H', L2.Same H H' → Q (.bl false) H' := fun e H' sm => by
      have w := q H' sm
      rw [e] at w
      exact w
    cases hz with
    | @tup t xs ds et ra =>
      have lx := dz_len ra
      have l1 : ds.length ≤ 1000 := by
        have h1 := W08.len_ncs ds
        have h2 : W08.nc (.tuple ds) = W08.ncs ds + 1 := rfl
        omega
      refine iteF ⟨_, rfl, t, xs, rfl, .inr (SqT.of et), rfl, _, rfl, ite2 (fun e => ?_) (fun e => ?_)⟩
      · have : ds = [] := by
          have e := of_decide_eq_true e
          injection e with e
          exact List.eq_nil_of_length_eq_zero (by omega)
        exact qf (by rw [this]; rfl) _ (Same.refl H)
      have ne : ds.isEmpty = false := by
        cases ds with
        | nil =>
          exact absurd (decide_eq_true (by rw [lx]; rfl)) e
        | cons _ _ => rfl
      refine ⟨_, rfl, t, rfl, ⟨_, SqT.of et⟩, fun L nL => ?_⟩
      refine lc_tup (K := K) (a := t) (xs := xs) (fun i Hi => L2.Same H Hi ∧ Hi L = some (.lst (((ds.take i).map fieldD).map V.bl))) ⟨same_upd nL, upd_same⟩ (fun i Hi _ z => SqT.of (z.1 _ _ et)) ?_ ?_
      · rintro i x Hi hx ⟨sm, hL⟩
        obtain ⟨e1, he, dz⟩ := dz_get ra hx
        have il := (List.getElem?_eq_some_iff.mp he).1
        refine ⟨rfl, ?_⟩
        unfold tYes
        refine iteT ⟨_, rfl, x, e1, rfl, dz.same sm, _, hL, ?_, fun b o e => ?_, ?_⟩
        · rw [List.length_map, List.length_map, List.length_take]
          exact Nat.lt_of_le_of_lt (show min i ds.length ≤ 1000 by omega) (by decide)
        · rw [upd_ne (ne_of_none e nL)]
          exact sm _ _ e
        · rw [upd_same, List.take_add_one, he, List.map_append, List.map_append]
          rfl
      rintro H1 ⟨s1, hL⟩
      rw [lx, List.take_length] at hL
      refine ⟨L, _, rfl, SqL.of hL, _, rfl, ?_⟩
      have ea : ((ds.map fieldD).all id) = ds.all fieldD := by rw [List.all_map]; rfl
      rw [ea]
      cases al : ds.all fieldD with
      | false => exact iteT (qf (by show (!ds.isEmpty && ds.all fieldD && _) = false; rw [al, Bool.and_false, Bool.false_and]) _ s1)
      | true =>
        have ex := txs_all ra (fields_str al)
        have tl := txs_len ds
        have lt : (txs ds).length = ds.length := by rw [← lx, ex, List.length_map]
        refine iteF ⟨_, rfl, t, rfl, ⟨_, SqT.of (s1 _ _ et)⟩, fun M nM => ?_⟩
        refine lc_tup (K := K) (a := t) (xs := xs) (fun i Hi => L2.Same H1 Hi ∧ Hi M = some (.lst (((ixs ds).take i).map V.int))) ⟨same_upd nM, upd_same⟩ (fun i Hi _ z => SqT.of (z.1 _ _ (s1 _ _ et))) ?_ ?_
        · rintro i x Hi hx ⟨sm, hM⟩
          rw [ex, List.getElem?_map] at hx
          obtain ⟨y, hy, rfl⟩ := Option.map_eq_some_iff.mp hx
          obtain ⟨f1, f2⟩ := fIx_at (txs_fields al y (List.mem_of_getElem? hy))
          have il := (List.getElem?_eq_some_iff.mp hy).1
          refine ⟨rfl, ?_⟩
          unfold tYes
          refine iteT ⟨.inr (.inl ⟨rfl, gl⟩), _, rfl, gF, fields, y, fIx y, rfl, rfl, sf _, f1, f2, _, hM, ?_, fun b o e => ?_, ?_⟩
          · rw [List.length_map, List.length_take]
            unfold ixs
            rw [List.length_map]
            exact Nat.lt_of_le_of_lt (show min i (txs ds).length ≤ 1000 by omega) (by decide)
          · rw [upd_ne (ne_of_none e nM)]
            exact sm _ _ e
          · have : (ixs ds)[i]? = some ((fIx y : Nat) : Int) := by
              unfold ixs
              rw [List.getElem?_map, hy]
              rfl
            rw [upd_same, List.take_add_one, this, List.map_append]
            rfl
        rintro H2 ⟨s2, hM⟩
        have le : (ixs ds).length = xs.length := by unfold ixs; rw [List.length_map, lt, lx]
        rw [← le, List.take_length] at hM
        refine ⟨M, ixs ds, rfl, hM, by omega, fun H3 s3 => ?_⟩
        have w := q H3 ((s1.trans s2).trans s3)
        have e : ruleD (.tuple ds) = ris (ixs ds) := by
          show (!ds.isEmpty && ds.all fieldD && ris (ixs ds)) = _
          rw [al, ne]
          rfl
        rw [e] at w
        exact w
    | _ => exact iteT (qf rfl _ (Same.refl H))
theorem ok_ar {f : Addr} {fd : FuncData} (D : Df K mg "are_rules" ["thing"] sAreRules f fd) (T : Txt K mg) (cIR : Ca P w K mg base 2 "is_rule" ["thing"] (spIr K)) (cU : Ca P w K mg base 1 "are_unlike" ["things"] (spUn K)) : FnOk P w K mg base CX0 3 f fd ["thing"] (spAr K) := by
  obtain ⟨tM, gM⟩ := T.mr
  refine D.fn.ok scAreRules (fun vs H Q E h => ?_) (fun cdv A outer s H vs Q E hr h => ?_)
  · obtain ⟨v, d, rfl, hz, nc, q⟩ := h
    rfl
  · obtain ⟨v, d, rfl, hz, nc, q⟩ := h
    refine ⟨_, (pss_cons (ps_if (PW.pt (pw_or (pt_not (pt_val (pe_callB call_isi (by rfl) T.isi (by decide +kernel) (pa_cons (pv 0) (pa_cons (pe_bltn (v := .ty "tuple") (by rfl) T.tuple (by decide +kernel) rfl) pa_nil))))) (pw_or1 (pt_not (pt_chain op_le op_le pe_int (pe_callB call_len_seq (by rfl) T.len PySem.boot_len (pa_cons (pv 0) pa_nil)) (pe_glob (v := .int 6) (by rfl) gM ⟨_, rfl⟩)))))) (pss_one (ps_ret pe_bl)) pss_nil)
      (pss_one (ps_ret (pe_and (pe_callB (cr_all (by rfl)) (by rfl) T.all (by decide +kernel) (pa_cons (pe_lc (own := [("rule", 1)]) (g := gName 1) (tt := tYes) (te := tCall (spIr K) [] E0 (tCons (tVar 1) tNil)) (by rfl) scAreRules.nd (pi_tup (pv 0)) (blkOk_by (own := [("rule", 1)]) (N := ["thing", "rule"]) (sc := defScope sAreRules) (by decide +kernel)) (fun _ _ _ _ _ => pg_name (i := 1) scAreRules.nd rfl (.inl rfl)) (fun _ _ _ _ _ => pts_nil) (fun _ _ _ _ _ => pe_ca cIR hr (by decide) (by rfl) (pa_cons (pv 1) pa_nil))) pa_nil)) (pe_one (pe_ca cU hr (by decide) (by rfl) (pa_cons (pv 0) pa_nil))))))), ?_⟩
    refine ⟨_, rfl, _, _, _, _, isTup d, rfl, .ty _, hz.ty, z_tup d, _, rfl, ?_⟩
    have qf : rulesD d = false → ∀ H', L2.Same H H' → Q (.bl false) H' := fun e H' sm => by
      have w := q H' sm
      rw [e] at w
      exact w
    cases hz with
    | @tup t xs ds et ra =>
      have lx := dz_len ra
      have l1 : ds.length ≤ 1000 := by
        have h1 := W08.len_ncs ds
        have h2 : W08.nc (.tuple ds) = W08.ncs ds + 1 := rfl
        omega
      refine iteF ⟨_, rfl, t, xs, rfl, .inr (SqT.of et), _, _, rfl, rfl, _, rfl, ite2 (fun e1 => ?_) (fun e1 => ?_)⟩
      rotate_left
      · have : decide (1 ≤ ds.length) = false := decide_eq_false fun z => e1 (decide_eq_true (by omega))
        exact ⟨_, rfl, iteT (qf (by show (decide (1 ≤ ds.length) && _ && _ && _) = false; rw [this]; rfl) _ (Same.refl H))⟩
      have d1 : decide (1 ≤ ds.length) = true := by
        have := of_decide_eq_true e1
        exact decide_eq_true (by omega)
      refine ⟨_, _, rfl, rfl, _, rfl, ?_⟩
      by_cases c : ds.length ≤ 6
      rotate_left
      · have e2 : decide (((xs.length : Nat) : Int) ≤ 6) = false := decide_eq_false (by omega)
        rw [e2]
        exact iteT (qf (by show (decide (1 ≤ ds.length) && decide (ds.length ≤ 6) && _ && _) = false; rw [decide_eq_false c, Bool.and_false]; rfl) _ (Same.refl H))
      have e2 : decide (((xs.length : Nat) : Int) ≤ 6) = true := decide_eq_true (by omega)
      rw [e2]
      refine iteF ⟨_, rfl, t, rfl, ⟨_, SqT.of et⟩, fun L nL => ?_⟩
      have dd : rulesD (.tuple ds) = (ds.all ruleD && decide (ds.map tks).Nodup) := by
        show (decide (1 ≤ ds.length) && decide (ds.length ≤ 6) && ds.all ruleD && decide (ds.map tks).Nodup) = _
        rw [d1, decide_eq_true c]
        rfl
      refine lc_tup (K := K) (a := t) (xs := xs) (fun i Hi => L2.Same H Hi ∧ Hi L = some (.lst (((ds.take i).map ruleD).map V.bl))) ⟨same_upd nL, upd_same⟩ (fun i Hi _ z => SqT.of (z.1 _ _ et)) ?_ ?_
      · rintro i x Hi hx ⟨sm, hL⟩
        obtain ⟨e3, he, dz⟩ := dz_get ra hx
        have il := (List.getElem?_eq_some_iff.mp he).1
        refine ⟨rfl, ?_⟩
        unfold tYes
        refine iteT ⟨_, rfl, x, e3, rfl, dz.same sm, ?_, fun H2 s2 => ⟨_, s2 _ _ hL, ?_, fun b o e => ?_, ?_⟩⟩
        · have h1 := W08.ncs_mem (List.mem_of_getElem? he)
          have h2 : W08.nc (.tuple ds) = W08.ncs ds + 1 := rfl
          omega
        · rw [List.length_map, List.length_map, List.length_take]
          exact Nat.lt_of_le_of_lt (show min i ds.length ≤ 1000 by omega) (by decide)
        · rw [upd_ne (ne_of_none e nL)]
          exact s2 _ _ (sm _ _ e)
        · rw [upd_same, List.take_add_one, he, List.map_append, List.map_append]
          rfl
      rintro H1 ⟨s1, hL⟩
      rw [lx, List.take_length] at hL
      have ea : ((ds.map ruleD).all id) = ds.all ruleD := by rw [List.all_map]; rfl
      refine ⟨L, _, rfl, SqL.of hL, _, rfl, ?_⟩
      rw [ea]
      cases al : ds.all ruleD with
      | false => exact iteF (qf (by rw [dd, al]; rfl) _ s1)
      | true =>
        obtain ⟨ks, k1, k2, k3⟩ := rule_keys (ra.same s1) (List.all_eq_true.mpr fun d hd => rule_strs (List.all_eq_true.mp al d hd))
        have kl : ks.length = ds.length := by rw [← lx, k1, List.length_map]
        refine iteT ⟨_, rfl, t, ks, rfl, by rw [← k1]; exact SqT.of (s1 _ _ et), k3, by omega, ?_⟩
        have w := q H1 s1
        rw [dd, al] at w
        rw [k2]
        exact w
    | _ => exact iteT (qf rfl _ (Same.refl H))
end
end K21
set_option Elab.async false
set_option linter.all false
set_option maxRecDepth 100000
set_option maxHeartbeats 4000000
set_option pp.maxSteps 400
set_option pp.deepTerms false
namespace K21
open PySem PySem.Spec PyProof.Rows L2
open Xk Az
section
variable {P : Program} {w : World} {K : PySem.W.Frag} {mg : Str → Option Value} {base : Heap}
theorem cutV_take (xs : List V) (k : Nat) : cutV xs none (some (k : Int)) = xs.take k := by
  unfold cutV
  have e1 : HT.sIx xs.length 0 none = 0 := rfl
  have e2 : HT.sIx xs.length xs.length (some (k : Int)) = min k xs.length := by rw [HT.sIx_nat]
  rw [e1, e2, List.drop_zero, Nat.sub_zero]
  by_cases h : k ≤ xs.length
  · rw [Nat.min_eq_left h]
  · rw [Nat.min_eq_right (by omega), List.take_of_length_le (Nat.le_refl _), List.take_of_length_le (by omega)]
theorem cutV_drop (xs : List V) (k : Nat) (h : k ≤ xs.length) : cutV xs (some (k : Int)) none = xs.drop k := by
  unfold cutV
  have e1 : HT.sIx xs.length 0 (some (k : Int)) = min k xs.length := by rw [HT.sIx_nat]
  have e2 : HT.sIx xs.length xs.length none = xs.length := rfl
  rw [e1, e2, Nat.min_eq_left h, List.take_of_length_le (by rw [List.length_drop]; omega)]
section
variable {X : Cx}
theorem op_eqT0 (hu : X.A.units + 64 < cLine) : OpR X (compareOp .Eq) (fun x y H Q => ∃ a b xs, x = .ref a ∧ y = .ref b ∧ H a = some (.tup xs) ∧ H b = some (.tup []) ∧ Q (.bl xs.isEmpty) H) := by
  intro pins s σ H x y v u Q I rx ry h
  obtain ⟨a, b, xs, rfl, rfl, ea, eb, q⟩ := h
  cases rx; cases ry
  obtain ⟨its, r1, ⟨o1, g1, c1, n1, d1⟩, _⟩ := I.tuple (SqT.of ea)
  obtain ⟨its2, r2, ⟨o2, g2, c2, n2, d2⟩, _⟩ := I.tuple (SqT.of eb)
  cases r2
  have k : ((List.range (min its.toArray.size ([] : List Value).toArray.size)).all (fun _ => true) && its.toArray.size == ([] : List Value).toArray.size) = xs.isEmpty := by
    cases xs with
    | nil => cases r1; rfl
    | cons z zs =>
      cases r1 with
      | cons _ _ => simp
  have w := PySem.SeqAt.RcAt.tuples (A := X.A) (s := s) (l := a) (b := b) (items := its.toArray) (items2 := ([] : List Value).toArray) (e := fun _ => true) ⟨o1, g1, c1, n1, d1⟩ ⟨o2, g2, c2, n2, d2⟩ (Nat.lt_of_le_of_lt (Nat.le_add_right _ 64) hu) (fun j h1 h2 => absurd h2 (by simp))
  rw [k] at w
  exact w X.prog X.w _ _ ⟨.bl _, H, I, rfl, q⟩
end
section
variable {X : Cx}
/-- a list of a tuple's things, new -/
theorem cr_listT : CallR X (.type "list") (fun xs H Q => ∃ p ys, xs = [.ref p] ∧ SqT X.K H p ys ∧ ∀ l, H l = none → l ≠ sysModules → Q (.ref l) (upd H l (.lst ys))) := by
  intro pins s σ H xs us Q I r h
  obtain ⟨p, ys, rfl, hq, q⟩ := h
  obtain ⟨u, rfl, rx⟩ := vals1 r; cases rx
  obtain ⟨its, r', ⟨o, ho, hc, n, hd⟩, hz⟩ := I.tuple hq
  have hlen := r'.length
  exact call_list_seq p (.inr rfl) ho hc hd (fun h' c' kp e => ⟨.ref s.heap.objs.size, _, I.laid (t' := s.toks) kp (Nat.le_refl _) (show ObjOk X.prog X.w _ h' _ (.lst ys) from ⟨hz, its, c', r', e⟩), rfl, q _ (I.hok.fresh (Nat.le_refl _)) (Nat.ne_of_gt I.big)⟩) (by simp only [List.size_toArray]; omega)
end
def Asc7 (x : Str) : Prop := ∀ c ∈ x.cps.toList, c < 128
theorem Asc7.ok {x : Str} (h : Asc7 x) : PyData.strOk x = true := by
  unfold PyData.strOk
  rw [← Array.all_toList, List.all_eq_true]
  intro c hc
  exact decide_eq_true (Nat.lt_of_lt_of_le (h c hc) (by decide))
theorem ris_cons (x y : Int) (r : List Int) : ris (x :: y :: r) = (decide (x < y) && ris (y :: r)) := by
  unfold ris bsR
  rw [show (x :: y :: r).length - 1 = ((y :: r).length - 1) + 1 from by simp, List.range_succ_eq_map, List.map_cons, List.all_cons, List.map_map]
  rfl
theorem ris_iff : ∀ ns : List Int, ris ns = true ↔ ns.Pairwise (· < ·)
  | [] => by simp [ris, bsR]
  | [x] => by simp [ris, bsR]
  | x :: y :: r => by
    rw [ris_cons, Bool.and_eq_true, ris_iff (y :: r), decide_eq_true_eq]
    constructor
    · rintro ⟨h1, h2⟩
      refine List.pairwise_cons.mpr ⟨fun z hz => ?_, h2⟩
      rcases List.mem_cons.mp hz with e | e
      · rw [e]; exact h1
      · have := (List.pairwise_cons.mp h2).1 z e
        omega
    · intro h
      obtain ⟨h1, h2⟩ := List.pairwise_cons.mp h
      exact ⟨h1 y List.mem_cons_self, h2⟩
theorem srt_ext : ∀ {a b : List Int}, a.Pairwise (· < ·) → b.Pairwise (· < ·) → (∀ k, k ∈ a ↔ k ∈ b) → a = b
  | [], [], _, _, _ => rfl
  | [], y :: _, _, _, h => absurd ((h y).mpr List.mem_cons_self) (by simp)
  | x :: _, [], _, _, h => absurd ((h x).mp List.mem_cons_self) (by simp)
  | x :: a, y :: b, ha, hb, h => by
    rw [List.pairwise_cons] at ha hb
    have e : x = y := by
      rcases List.mem_cons.mp ((h x).mp List.mem_cons_self) with z | z
      · exact z
      · rcases List.mem_cons.mp ((h y).mpr List.mem_cons_self) with u | u
        · exact u.symm
        · have h1 := hb.1 x z
          have h2 := ha.1 y u
          omega
    subst e
    rw [srt_ext ha.2 hb.2 fun k => ?_]
    constructor
    · intro hk
      rcases List.mem_cons.mp ((h k).mp (List.mem_cons_of_mem _ hk)) with z | z
      · have := ha.1 k hk
        omega
      · exact z
    · intro hk
      rcases List.mem_cons.mp ((h k).mpr (List.mem_cons_of_mem _ hk)) with z | z
      · have := hb.1 k hk
        omega
      · exact z
def nIx (xs : List Str) : List Int := xs.map fun x => ((fIx x : Nat) : Int)
theorem nIx_fields : (nIx fields).Pairwise (· < ·) := by
  unfold nIx
  decide +kernel
theorem nIx_inj : ∀ {xs ys : List Str}, (∀ x ∈ xs, x ∈ fields) → (∀ y ∈ ys, y ∈ fields) → nIx xs = nIx ys → xs = ys
  | [], [], _, _, _ => rfl
  | [], _ :: _, _, _, h => by cases h
  | _ :: _, [], _, _, h => by cases h
  | x :: xs, y :: ys, hx, hy, h => by
    unfold nIx at h
    rw [List.map_cons, List.map_cons] at h
    injection h with h1 h2
    have a := (fIx_at (hx x List.mem_cons_self)).1
    have b := (fIx_at (hy y List.mem_cons_self)).1
    rw [show fIx x = fIx y by omega] at a
    rw [a] at b
    rw [Option.some.inj b, nIx_inj (fun z hz => hx z (List.mem_cons_of_mem _ hz)) (fun z hz => hy z (List.mem_cons_of_mem _ hz)) h2]
/-- what stands in the fields' order -/
def keep (xs : List Str) : List Str := fields.filter fun f => decide (f ∈ xs)
theorem keep_mem {xs : List Str} {x : Str} : x ∈ keep xs ↔ x ∈ fields ∧ x ∈ xs := by
  unfold keep
  rw [List.mem_filter, decide_eq_true_eq]
theorem keep_rises (xs : List Str) : (nIx (keep xs)).Pairwise (· < ·) := nIx_fields.sublist (List.filter_sublist.map _)
theorem keep_iff (xs : List Str) : ((∀ x ∈ xs, x ∈ fields) ∧ (nIx xs).Pairwise (· < ·)) ↔ xs = keep xs := by
  constructor
  · rintro ⟨h1, h2⟩
    refine nIx_inj h1 (fun y hy => (keep_mem.mp hy).1) (srt_ext h2 (keep_rises xs) fun k => ?_)
    unfold nIx
    rw [List.mem_map, List.mem_map]
    constructor
    · rintro ⟨x, hx, e⟩
      exact ⟨x, keep_mem.mpr ⟨h1 x hx, hx⟩, e⟩
    · rintro ⟨x, hx, e⟩
      exact ⟨x, (keep_mem.mp hx).2, e⟩
  · intro e
    refine ⟨fun x hx => ?_, by rw [e]; exact keep_rises xs⟩
    rw [e] at hx
    exact (keep_mem.mp hx).1
theorem rule_keep {ds : List PyData} (h : ds.all isStr = true) (ne : ds.isEmpty = false) : ruleD (.tuple ds) = decide (txs ds = keep (txs ds)) := by
  have fa : ∀ {ds : List PyData}, ds.all isStr = true → (ds.all fieldD = true ↔ ∀ x ∈ txs ds, x ∈ fields) := by
    intro ds
    induction ds with
    | nil => intro _; simp [txs]
    | cons d r ih =>
      intro h
      rw [List.all_cons, Bool.and_eq_true] at h
      rw [List.all_cons, Bool.and_eq_true, ih h.2]
      have h1 := h.1
      cases d with
      | str x =>
        show (decide (x ∈ fields) = true ∧ _) ↔ ∀ y ∈ x :: txs r, y ∈ fields
        rw [decide_eq_true_eq, List.forall_mem_cons]
      | _ => cases h1
  show (!ds.isEmpty && ds.all fieldD && ris (ixs ds)) = _
  rw [ne, Bool.eq_iff_iff, decide_eq_true_eq, ← keep_iff, Bool.not_false, Bool.true_and, Bool.and_eq_true, fa h, ris_iff]
  rfl
theorem eqvAll_strs : ∀ xs ys : List Str, PyData.eqvAll (xs.map PyData.str) (ys.map PyData.str) = decide (xs = ys)
  | [], [] => by simp [PyData.eqvAll]
  | [], _ :: _ => by simp [PyData.eqvAll]
  | _ :: _, [] => by simp [PyData.eqvAll]
  | x :: xs, y :: ys => by
    rw [List.map_cons, List.map_cons, PyData.eqvAll, eqvAll_strs xs ys]
    have : PyData.eqv (.str x) (.str y) = decide (x = y) := by
      rw [PyData.eqv]
      first | rfl | simp
    rw [this, ← Bool.decide_and]
    exact decide_eq_decide.mpr (by rw [List.cons.injEq])
theorem eqv_strs (xs ys : List Str) : PyData.eqv (.list (xs.map PyData.str)) (.list (ys.map PyData.str)) = decide (xs = ys) := by
  rw [PyData.eqv]
  exact eqvAll_strs xs ys
theorem dp_strs {H : Hp} : ∀ xs : List Str, DpAll K H (xs.map V.str) (xs.map PyData.str)
  | [] => .nil
  | x :: r => .cons (.str x) (dp_strs r)
theorem lay_strs : ∀ {xs : List Str}, (∀ x ∈ xs, ∀ c ∈ x.cps.toList, c < 128) → PyData.canLayAll0 (xs.map PyData.str) = true
  | [], _ => by simp [PyData.canLayAll0]
  | x :: r, h => by
    have h1 : Asc7 x := h x List.mem_cons_self
    simp [PyData.canLayAll0, PyData.canLay0, h1.ok, lay_strs fun y hy => h y (List.mem_cons_of_mem _ hy)]
theorem dep_strs : ∀ xs : List Str, PyData.depthAll (xs.map PyData.str) ≤ 0
  | [] => by simp [PyData.depthAll]
  | x :: r => by
    have := dep_strs r
    simp only [List.map_cons, PyData.depthAll, PyData.depth]
    omega
theorem shaped_strs {xs : List Str} (h : ∀ x ∈ xs, ∀ c ∈ x.cps.toList, c < 128) : SeqAt.shaped (.list (xs.map PyData.str)) = true := by
  unfold SeqAt.shaped
  have h1 : (PyData.list (xs.map PyData.str)).canLay0 = true := by simp only [PyData.canLay0]; exact lay_strs h
  have h2 : (PyData.list (xs.map PyData.str)).depth ≤ 64 := by
    simp only [PyData.depth]
    have := dep_strs xs
    omega
  rw [h1, decide_eq_true h2]
  rfl
theorem txs_asc : ∀ {ds : List PyData}, W08.oks ds → ∀ x ∈ txs ds, ∀ c ∈ x.cps.toList, c < 128
  | [], _, x, h => by cases h
  | d :: r, o, x, h => by
    cases d with
    | str y =>
      rcases List.mem_cons.mp h with z | z
      · rw [z]
        exact o.1
      · exact txs_asc o.2 x z
    | _ => exact txs_asc o.2 x h
theorem fields7 : ∀ x ∈ fields, ∀ c ∈ x.cps.toList, c < 128 := by decide +kernel
mutual
/-- the texts in its tuples are of plain signs -/
def As : PyData → Prop
  | .str x => ∀ c ∈ x.cps.toList, c < 128
  | .tuple ds => Ass ds
  | _ => True
def Ass : List PyData → Prop
  | [] => True
  | d :: r => As d ∧ Ass r
end
mutual
theorem as_of : ∀ d : PyData, W08.ok d → As d
  | .str _, h => h
  | .tuple ds, h => ass_of ds h
  | .none, _ | .bool _, _ | .int _, _ | .list _, _ | .dict _, _ => trivial
theorem ass_of : ∀ ds : List PyData, W08.oks ds → Ass ds
  | [], _ => trivial
  | d :: r, h => ⟨as_of d h.1, ass_of r h.2⟩
end
theorem ass_mem : ∀ {ds : List PyData}, Ass ds → ∀ d ∈ ds, As d
  | [], _, d, h => by cases h
  | e :: r, a, d, h => (List.mem_cons.mp h).elim (fun z => by rw [z]; exact a.1) fun z => ass_mem a.2 d z
theorem ass_txs : ∀ {ds : List PyData}, Ass ds → ∀ x ∈ txs ds, ∀ c ∈ x.cps.toList, c < 128
  | [], _, x, h => by cases h
  | d :: r, o, x, h => by
    cases d with
    | str y =>
      rcases List.mem_cons.mp h with z | z
      · rw [z]
        exact o.1
      · exact ass_txs o.2 x z
    | _ => exact ass_txs o.2 x h
def spLar (K : PySem.W.Frag) : Sp := fun vs H Q _ => ∃ (v : V) (d : PyData), vs = [v] ∧ Dz K H v d ∧ As d ∧ W08.nc d ≤ 1000 ∧ ∀ H', L2.Same H H' → Q (.bl (rulesD d)) H'
theorem ok_lar {f : Addr} {fd : FuncData} (D : Df K mg "_law_are_rules" ["_law_thing"] sLawAreRules f fd) (T : Txt K mg) : FnOk P w K mg base CX0 2 f fd ["_law_thing"] (spLar K) := by
  refine D.fn.ok scLawAreRules (fun vs H Q E h => ?_) (fun cdv A outer s H vs Q E hr h => ?_)
  · obtain ⟨v, d, rfl, hz, oD, nc, q⟩ := h
    rfl
  · obtain ⟨v, d, rfl, hz, oD, nc, q⟩ := h
    refine ⟨_, (pss_cons (ps_if (PW.pt (pw_or (pt_not (pt_val (pe_callB call_isi (by rfl) T.isi (by decide +kernel) (pa_cons (pv 0) (pa_cons (pe_bltn (v := .ty "tuple") (by rfl) T.tuple (by decide +kernel) rfl) pa_nil))))) (pw_or1 (pt_not (pt_chain op_le op_le pe_int (pe_callB call_len_seq (by rfl) T.len PySem.boot_len (pa_cons (pv 0) pa_nil)) pe_int))))) (pss_one (ps_ret pe_bl)) pss_nil)
      (pss_cons (ps_set (i := 1) scLawAreRules.nd rfl (.inl rfl) (pe_lst (pa_cons pe_str (pa_cons pe_str (pa_cons pe_str (pa_cons pe_str (pa_cons pe_str pa_nil)))))))
      (pss_cons (ps_for PassesOwn.never rfl (pi_tup (pv 0)) (pg_name (i := 2) scLawAreRules.nd rfl (.inr rfl)) (pss_cons (ps_if (PW.pt (pw_or (pt_not (pt_val (pe_callB call_isi (by rfl) T.isi (by decide +kernel) (pa_cons (pv 2) (pa_cons (pe_bltn (v := .ty "tuple") (by rfl) T.tuple (by decide +kernel) rfl) pa_nil))))) (pw_or (pt_cmpR (op_eqT0 hr.units) (pv 2) (pe_tup pa_nil) (nomark _)) (pw_or1 (pt_not (pt_val (pe_callB (cr_all (by rfl)) (by rfl) T.all (by decide +kernel) (pa_cons (pe_lc (own := [("_law_field", 3)]) (g := gName 3) (tt := tYes) (te := tCB (rIsi K) (tCons (tVar 3) (tCons (tC (V.ty "str")) tNil))) (by rfl) scLawAreRules.nd (pi_tup (pv 2)) (blkOk_by (own := [("_law_field", 3)]) (N := ["_law_thing", "_law_fields", "_law_rule", "_law_field"]) (sc := defScope sLawAreRules) (by decide +kernel)) (fun _ _ _ _ _ => pg_name (i := 3) scLawAreRules.nd rfl (.inl rfl)) (fun _ _ _ _ _ => pts_nil) (fun _ _ _ _ _ => pe_callB call_isi (by rfl) T.isi (by decide +kernel) (pa_cons (pv 3) (pa_cons (pe_bltn (v := .ty "str") (by rfl) T.str (by decide +kernel) rfl) pa_nil)))) pa_nil)))))))) (pss_one (ps_ret pe_bl)) pss_nil)
      (pss_one (ps_if (pt_cmpR (op_neD hr.units) (pe_callTy cr_listT (by rfl) T.list (by decide +kernel) (pa_cons (pv 2) pa_nil)) (pe_lc (own := [("_law_field", 3)]) (g := gName 3) (tt := tTest (tOp (rIn K false) (tVar 3) (tVar 2))) (by rfl) scLawAreRules.nd (pi_list (pv 1)) (blkOk_by (own := [("_law_field", 3)]) (N := ["_law_thing", "_law_fields", "_law_rule", "_law_field"]) (sc := defScope sLawAreRules) (by decide +kernel)) (fun _ _ _ _ _ => pg_name (i := 3) scLawAreRules.nd rfl (.inl rfl)) (fun _ _ _ _ _ => (pts_one (pt_cmpR op_in_seq (pv 3) (pv 2) (by rfl)))) (fun _ _ _ _ _ => pv 3)) (nomark _)) (pss_one (ps_ret pe_bl)) pss_nil))))
      (pss_one (ps_ret (pe_cmpR op_eq (Xts.pe_lenSetK (by rfl) hr.units (by rfl) T.len (by rfl) T.set (pv 0)) (pe_callB call_len_seq (by rfl) T.len PySem.boot_len (pa_cons (pv 0) pa_nil)) (nomark _))))))), ?_⟩
    refine ⟨_, rfl, _, _, _, _, isTup d, rfl, .ty _, hz.ty, z_tup d, _, rfl, ?_⟩
    have qf : rulesD d = false → ∀ H', L2.Same H H' → Q (.bl false) H' := fun e H' sm => by
      have w := q H' sm
      rw [e] at w
      exact w
    cases hz with
    | @tup t xs ds et ra =>
      have lx := dz_len ra
      have l1 : ds.length ≤ 1000 := by
        have h1 := W08.len_ncs ds
        have h2 : W08.nc (.tuple ds) = W08.ncs ds + 1 := rfl
        omega
      refine iteF ⟨_, rfl, t, xs, rfl, .inr (SqT.of et), _, _, rfl, rfl, _, rfl, ite2 (fun e1 => ?_) (fun e1 => ?_)⟩
      rotate_left
      · have : decide (1 ≤ ds.length) = false := decide_eq_false fun z => e1 (decide_eq_true (by omega))
        exact ⟨_, rfl, iteT (qf (by show (decide (1 ≤ ds.length) && _ && _ && _) = false; rw [this]; rfl) _ (Same.refl H))⟩
      have d1 : decide (1 ≤ ds.length) = true := by
        have := of_decide_eq_true e1
        exact decide_eq_true (by omega)
      refine ⟨_, _, rfl, rfl, _, rfl, ?_⟩
      by_cases c : ds.length ≤ 6
      rotate_left
      · have e2 : decide (((xs.length : Nat) : Int) ≤ 6) = false := decide_eq_false (by omega)
        rw [e2]
        exact iteT (qf (by show (decide (1 ≤ ds.length) && decide (ds.length ≤ 6) && _ && _) = false; rw [decide_eq_false c, Bool.and_false]; rfl) _ (Same.refl H))
      have e2 : decide (((xs.length : Nat) : Int) ≤ 6) = true := decide_eq_true (by omega)
      rw [e2]
      have dd : rulesD (.tuple ds) = (ds.all ruleD && decide (ds.map tks).Nodup) := by
        show (decide (1 ≤ ds.length) && decide (ds.length ≤ 6) && ds.all ruleD && decide (ds.map tks).Nodup) = _
        rw [d1, decide_eq_true c]
        rfl
      refine iteF ⟨(by show 5 ≤ sizeLine; decide), fun F nF => ?_⟩
      have sF := same_upd nF (o := .lst [.str "code", .str "title", .str "players", .str "day", .str "length"])
      have eF : (L2.upd H F (.lst [.str "code", .str "title", .str "players", .str "day", .str "length"])) F = some (.lst (fields.map V.str)) := upd_same
      have et1 := sF _ _ et
      generalize L2.upd H F (.lst [.str "code", .str "title", .str "players", .str "day", .str "length"]) = H1 at sF eF et1 ⊢
      refine ⟨_, rfl, t, rfl, ⟨_, SqT.of et1⟩, for_tup (K := K) (a := t) (xs := xs) (fun i σ Hx => ∃ c2 c3 : Option V, σ = [some (.ref t), some (.ref F), c2, c3] ∧ L2.Same H1 Hx ∧ (ds.take i).all ruleD = true) ⟨_, _, rfl, Same.refl H1, rfl⟩ (fun i σ Hx _ z => let ⟨_, _, _, s, _⟩ := z; SqT.of (s _ _ et1)) ?_ ?_⟩
      · rintro i x σ Hi hx ⟨c2, c3, rfl, sm1, al⟩
        have sm : L2.Same H Hi := sF.trans sm1
        obtain ⟨e, he, dz0⟩ := dz_get ra hx
        have dz := dz0.same sm
        have em := List.mem_of_getElem? he
        have bad : ruleD e = false → ∀ H', L2.Same H H' → Q (.bl false) H' := fun z => qf (by
          rw [dd]
          have : ds.all ruleD = false := by
            cases y : ds.all ruleD with
            | false => rfl
            | true => rw [List.all_eq_true.mp y e em] at z; cases z
          rw [this]
          rfl)
        have good : ruleD e = true → (ds.take (i + 1)).all ruleD = true := fun z => by
          rw [List.take_add_one, he, List.all_append, al]
          show (true && (ruleD e && true)) = true
          rw [z]
          rfl
        have oe : As e := ass_mem (ds := ds) oD e em
        have ne1 : W08.nc e ≤ 1000 := by
          have h1 := W08.ncs_mem em
          have h2 : W08.nc (.tuple ds) = W08.ncs ds + 1 := rfl
          omega
        refine ⟨_, rfl, _, _, _, _, isTup e, rfl, .ty _, dz.ty, z_tup e, _, rfl, ?_⟩
        cases dz with
        | @tup t2 ys es et2 ra2 =>
          have ly := dz_len ra2
          have l2 : es.length ≤ 1000 := by
            have h1 := W08.len_ncs es
            have h2 : W08.nc (.tuple es) = W08.ncs es + 1 := rfl
            omega
          refine iteF ⟨_, rfl, (by show 0 ≤ sizeLine; decide), fun z nz => ?_⟩
          have sz := same_upd nz (o := .tup [])
          refine ⟨t2, z, ys, rfl, rfl, sz _ _ et2, upd_same, _, rfl, ite2 (fun e3 => ?_) (fun e3 => ?_)⟩
          · have : es = [] := by
              cases ys with
              | nil => exact List.eq_nil_of_length_eq_zero (by rw [← ly]; rfl)
              | cons _ _ => cases e3
            exact bad (by rw [this]; rfl) _ (sm.trans sz)
          have ene : es.isEmpty = false := by
            cases es with
            | nil =>
              have : ys = [] := List.eq_nil_of_length_eq_zero ly
              rw [this] at e3
              exact absurd rfl e3
            | cons _ _ => rfl
          have sm2 := sm.trans sz
          have sm21 := sm1.trans sz
          have et3 := sz _ _ et2
          have ra3 := ra2.same sz
          generalize L2.upd Hi z (.tup []) = H2 at sm2 sm21 et3 ra3 ⊢
          refine ⟨_, rfl, t2, rfl, ⟨_, SqT.of et3⟩, fun L nL => ?_⟩
          refine lc_tup (K := K) (a := t2) (xs := ys) (fun j Hj => L2.Same H2 Hj ∧ Hj L = some (.lst (((es.take j).map isStr).map V.bl))) ⟨same_upd nL, upd_same⟩ (fun j Hj _ z => SqT.of (z.1 _ _ et3)) ?_ ?_
          · rintro j y Hj hy ⟨sj, hL⟩
            obtain ⟨g, hg2, dg⟩ := dz_get ra3 hy
            have jl := (List.getElem?_eq_some_iff.mp hg2).1
            refine ⟨rfl, ?_⟩
            unfold tYes
            refine iteT ⟨_, rfl, _, _, _, _, isStr g, rfl, .ty _, (dg.same sj).ty, z_str g, _, hL, ?_, fun b o e => ?_, ?_⟩
            · rw [List.length_map, List.length_map, List.length_take]
              exact Nat.lt_of_le_of_lt (show min j es.length ≤ 1000 by omega) (by decide)
            · rw [upd_ne (ne_of_none e nL)]
              exact sj _ _ e
            · rw [upd_same, List.take_add_one, hg2, List.map_append, List.map_append]
              rfl
          rintro H3 ⟨s3, hL⟩
          rw [ly, List.take_length] at hL
          have ea : ((es.map isStr).all id) = es.all isStr := by rw [List.all_map]; rfl
          refine ⟨L, _, rfl, SqL.of hL, _, rfl, ?_⟩
          rw [ea]
          cases ast : es.all isStr with
          | false =>
            refine iteT (bad ?_ _ (sm2.trans s3))
            cases y : ruleD (.tuple es) with
            | false => rfl
            | true =>
              have : es.all isStr = true := rule_strs y
              rw [ast] at this
              cases this
          | true =>
            have ey := txs_all ra3 ast
            have asc := ass_txs (ds := es) oe
            have sm3 := sm2.trans s3
            have sm31 := sm21.trans s3
            have et4 := s3 _ _ et3
            refine iteF ⟨_, rfl, t2, ys, rfl, SqT.of et4, fun M nM neM => ?_⟩
            have sM := same_upd nM (o := .lst ys)
            have eM : (L2.upd H3 M (.lst ys)) M = some (.lst ys) := upd_same
            have eF4 := sM _ _ (sm31 _ _ eF)
            have et5 := sM _ _ et4
            generalize L2.upd H3 M (.lst ys) = H4 at sM eM eF4 et5 ⊢
            refine ⟨_, rfl, F, rfl, ⟨_, SqL.of eF4⟩, fun G nG => ?_⟩
            refine lc_list (K := K) (a := F) (xs := fields.map V.str) (fun j Hj => L2.Same H4 Hj ∧ Hj G = some (.lst (((fields.take j).filter fun f => decide (f ∈ txs es)).map V.str))) ⟨same_upd nG, upd_same⟩ (fun j Hj _ z => SqL.of (z.1 _ _ eF4)) ?_ ?_
            · rintro j y Hj hy ⟨sj, hG⟩
              rw [List.getElem?_map] at hy
              obtain ⟨fl, hf, rfl⟩ := Option.map_eq_some_iff.mp hy
              refine ⟨rfl, _, rfl, _, rfl, t2, ys, rfl, .inr (SqT.of (sj _ _ et5)), rfl, by rw [ey]; exact flat_strs _, _, rfl, ?_⟩
              have iv : inV (.str fl) ys = decide (fl ∈ txs es) := by rw [ey]; exact inV_strs _ _
              show (if inV (.str fl) ys = true then _ else _)
              rw [iv]
              have kl := List.length_filter_le (fun f => decide (f ∈ txs es)) (fields.take j)
              have k5 : (fields.take j).length ≤ 5 := by
                rw [List.length_take]
                exact Nat.min_le_right _ _
              by_cases m : fl ∈ txs es
              · rw [decide_eq_true m]
                refine iteT ⟨_, rfl, _, hG, ?_, fun b o e => ?_, ?_⟩
                · rw [List.length_map]
                  exact Nat.lt_of_le_of_lt (Nat.le_trans kl k5) (by decide)
                · rw [upd_ne (ne_of_none e nG)]
                  exact sj _ _ e
                · rw [upd_same, List.take_add_one, hf, List.filter_append, List.map_append]
                  have : ((some fl).toList.filter fun f => decide (f ∈ txs es)) = [fl] := by simp [m]
                  rw [this]
                  rfl
              · rw [decide_eq_false m]
                refine iteF ⟨sj, ?_⟩
                rw [List.take_add_one, hf, List.filter_append]
                have : ((some fl).toList.filter fun f => decide (f ∈ txs es)) = [] := by simp [m]
                rw [this, List.append_nil]
                exact hG
            rintro H5 ⟨s5, hG⟩
            rw [List.length_map, List.take_length] at hG
            have eM5 := s5 _ _ eM
            rw [ey] at eM5
            refine ⟨.list ((txs es).map .str), .list ((keep (txs es)).map .str), .lst (SqL.of eM5) (dp_strs _), .lst (SqL.of hG) (dp_strs _), shaped_strs asc, shaped_strs fun x hx => fields7 x (keep_mem.mp hx).1, _, rfl, ?_⟩
            rw [eqv_strs]
            have rk := rule_keep ast ene
            by_cases k : txs es = keep (txs es)
            · rw [decide_eq_true k] at rk ⊢
              exact iteF ⟨_, _, rfl, ((sm31.trans sM).trans s5), good rk⟩
            · rw [decide_eq_false k] at rk ⊢
              exact iteT (bad rk _ ((sm3.trans sM).trans s5))
        | _ => exact iteT (bad rfl _ sm)
      rintro σ He ⟨c2, c3, rfl, sm, al⟩
      rw [lx, List.take_length] at al
      have sH := sF.trans sm
      obtain ⟨ks, k1, k2, k3⟩ := rule_keys (ra.same sH) (List.all_eq_true.mpr fun d hd => rule_strs (List.all_eq_true.mp al d hd))
      have kl : ks.length = ds.length := by rw [← lx, k1, List.length_map]
      have h9 : SqT K He t (ks.map fun p => V.ref p.1) := by rw [← k1]; exact SqT.of (sm _ _ et1)
      refine ⟨_, rfl, t, ks, rfl, .inr h9, k3, by omega, _, rfl, t, _, rfl, .inr h9, rfl, ?_⟩
      have e9 : decide (V.int ((Xts.unlikeK (ks.map (·.2)) : Nat) : Int) = V.int (((ks.map fun p => V.ref p.1).length : Nat) : Int)) = decide (ks.map (·.2)).Nodup := by
        rw [Bool.eq_iff_iff, decide_eq_true_eq, decide_eq_true_eq, ← Xts.unlikeK_nodup, List.length_map, List.length_map]
        constructor
        · intro z
          injection z with z
          exact Int.ofNat_inj.mp z
        · intro z
          rw [z]
      rw [e9, k2]
      have w := q He sH
      rw [dd, al] at w
      exact w
    | _ => exact iteT (qf rfl _ (Same.refl H))
end
end K21
set_option Elab.async false
set_option linter.all false
set_option maxRecDepth 100000
set_option maxHeartbeats 4000000
set_option pp.maxSteps 400
set_option pp.deepTerms false
namespace Xt
open PySem PySem.Spec PyProof.Rows L2
open AutoSeq1 (wpAny_loadPart')
theorem meets_enumerate_newT (l : Addr) (items : Array Value) (n : Nat) (dct : Option Addr) (sl : Array (Option Value)) :
    Meets (Builtin.«enumerate.__new__» ⟨[.type "enumerate", .ref l], []⟩) (fun _ R s => s.heap.get? l = some { cls := .type "tuple", dict := dct, data := .seq items n, slots := sl } ∧
      R (.ok (.ret (.ref (s.heap.push { cls := .type "tuple_iterator", data := .fields #[.ref l, .int 0 0] }).objs.size)))
        { s with heap := (s.heap.push { cls := .type "tuple_iterator", data := .fields #[.ref l, .int 0 0] }).push { cls := .type "enumerate", data := .fields #[.none, .bool false, .ref s.heap.objs.size, rawInt 0, .none, .none] } }) :=
  .of_wp fun prog w A R s h => by
    obtain ⟨hp, g, d, tk, os⟩ := s; obtain ⟨hl, h⟩ := h
    have hsub := sub_enumerate
    have hL : Heap.IsTuple (Shared.heap ⟨hp, g, d, tk, os⟩) l items := ⟨_, hl, rfl, n, rfl⟩
    wp_walk using wpAny_loadPart' hl
    refine wpAny_stack_any fun st => wpAny_pure ?_
    split
    · rename_i c _ _ _ _ _
      cases (c == Value.type "enumerate")
      · wp_walk using wpAny_loadPart' hl, wpAny_pyIter_tuple hL
        exact ⟨_, rfl, h⟩
      · wp_walk using wpAny_loadPart' hl, wpAny_pyIter_tuple hL
        exact ⟨_, rfl, h⟩
    · wp_walk using wpAny_loadPart' hl, wpAny_pyIter_tuple hL
      exact ⟨_, rfl, h⟩
section
variable {prog : Program} {w : World} {A : Around} {E : Value → Shared → Prop} {s : Shared}
theorem call_enumerate_tuple {l : Addr} {items : Array Value} {Q : Value → Shared → Prop} (hL : s.heap.IsTuple l items)
    (h : ∀ h', IsEnum h' (s.heap.objs.size + 1) s.heap.objs.size 0 .none → h'.IsTupleIter s.heap.objs.size l 0 → h'.objs.size = s.heap.objs.size + 2 →
      (∀ b o, s.heap.get? b = some o → h'.get? b = some o) → Q (.ref (s.heap.objs.size + 1)) { s with heap := h' }) :
    wpAny (model prog w) A (call (.type "enumerate") [.ref l]) Q E s := by
  obtain ⟨⟨c, dct, dt, sl⟩, hl, hc, n, hd⟩ := hL
  replace hc : c = .type "tuple" := hc
  replace hd : dt = .seq items n := hd
  subst hc hd
  refine callType_new F.called_enumerate (by decide) (F.typeCall_enumerate_1 _) (F.newCall_enumerate_1 _) (fun obj => F.args_object_init_2 obj _) F.entry_enumerate_new
    (meets_enumerate_newT l items n dct sl) ⟨hl, ?_⟩
  have hz : (s.heap.push { cls := .type "tuple_iterator", data := .fields #[.ref l, .int 0 0] }).objs.size = s.heap.objs.size + 1 := Heap.size_push ..
  show _ ∧ _
  rw [hz]
  have he : IsEnum ((s.heap.push { cls := .type "tuple_iterator", data := .fields #[.ref l, .int 0 0] }).push
      { cls := .type "enumerate", data := .fields #[.none, .bool false, .ref s.heap.objs.size, rawInt 0, .none, .none] }) (s.heap.objs.size + 1) s.heap.objs.size 0 .none := by
    have := Heap.get?_push_size (s.heap.push { cls := .type "tuple_iterator", data := .fields #[.ref l, .int 0 0] })
      (o := { cls := .type "enumerate", data := .fields #[.none, .bool false, .ref s.heap.objs.size, rawInt 0, .none, .none] }) rfl
    rw [hz] at this; exact this
  refine ⟨⟨_, he, rfl⟩, h _ he ⟨_, Heap.get?_push_of_some _ (Heap.get?_push_size _ rfl), rfl, rfl⟩ (by rw [Heap.size_push, hz]) fun b o x => Heap.get?_push_of_some _ (Heap.get?_push_of_some _ x)⟩
end
/-- the tuple at a, each item in a new pair with its number -/
def IteT (K : PySem.W.Frag) (a : Addr) : It :=
  ⟨fun i H => ∃ (xs : List V) (x : V), SqT K H a xs ∧ xs[i]? = some x, fun i H v H' => ∃ T x, v = .ref T ∧ H T = none ∧ H' = upd H T (.tup [.int (i : Nat), x]) ∧ ∀ xs, SqT K H a xs → xs[i]? = some x, fun i H => ∃ xs : List V, SqT K H a xs ∧ xs.length = i⟩
theorem turn_enumT {P : Program} {w : World} {K : PySem.W.Frag} {elts : List Expr} {kk : Nat} {tpos : Pos} (a e it : Addr) (hae : a ≠ e) (hai : a ≠ it) :
    Turn P w K (.Tuple elts kk tpos) (IteT K a) [e, it] e (fun i h => (∃ old, IsEnum h e it ((i : Nat) : Int) old) ∧ h.IsTupleIter it a i ∧ e ≠ it) where
  mem := by simp
  obj := fun i h st b hb => by
    obtain ⟨⟨old, he⟩, ⟨o, ho, hc, hd⟩, _⟩ := st
    have e' : b = e ∨ b = it := by simpa using hb
    rcases e' with z | z
    · rw [z]; exact ⟨_, he, fun v q => nomatch q⟩
    · rw [z]; exact ⟨o, ho, fun v q => by rw [hd] at q; cases q⟩
  keep := fun i h h' st k => let ⟨⟨old, he⟩, hi, hne⟩ := st; ⟨⟨old, k e (by simp) _ he⟩, hi.at fun o q => k it (by simp) o q, hne⟩
  item := by
    intro X hP hw hK hc i pins s σ H E I hf st hg
    subst hP hw hK
    obtain ⟨⟨old, he⟩, hit, hne⟩ := st
    obtain ⟨xs, x, hq, hx⟩ := hg
    obtain ⟨its, rv, p, hz⟩ := I.tuple hq
    obtain ⟨u, hu, ru⟩ := rv.get hx
    have hel : e < s.heap.objs.size := Heap.lt_size he
    have hil : it < s.heap.objs.size := by obtain ⟨_, q, _⟩ := hit; exact Heap.lt_size q
    have hu' : its.toArray[i]? = some u := by simpa using hu
    have hi : i < its.toArray.size := by
      rcases Nat.lt_or_ge i its.toArray.size with h | h
      · exact h
      · rw [Array.getElem?_eq_none h] at hu'; cases hu'
    refine wpAny_pyNext_enum_itemD (Draws.tuple (A := X.A.in1) (I.ok.hd hc) it a hai its.toArray) he ⟨hit, p⟩ hi hne (by simp [Ne.symm hne]; exact ⟨hne, Ne.symm hae⟩) fun y h' tk hy ho hst' hT hsz hk => ?_
    obtain rfl : u = y := by rw [hu'] at hy; cases hy; rfl
    refine ⟨_, rfl, wpAny_letOwnedTupleGo_enum (s := { s with heap := h', toks := tk + 1 }) ho fun h'' he' sb => ?_⟩
    have hT2 : h''.get? s.heap.objs.size = some { cls := .type "tuple", data := .seq #[.int i tk, u] } := (sb.2 _ (Nat.ne_of_gt hel)).trans hT
    have new : ObjOk X.prog X.w (upd H s.heap.objs.size (.tup [.int (i : Nat), x])) h'' s.heap.objs.size (.tup [.int (i : Nat), x]) :=
      ⟨by show 2 ≤ sizeLine; decide, [.int i tk, u], .cons ⟨_, rfl⟩ (.cons ru .nil), ⟨_, hT2, rfl, _, rfl⟩⟩
    have I1 : Inv X pins σ (upd H s.heap.objs.size (.tup [.int (i : Nat), x])) { s with heap := h'', toks := tk + 1 } :=
      I.turnedNew (ch := [e, it]) (fun b ob hb q => (sb.2 b (fun z => hb (by simp [z]))).trans (hk b ob (fun z => hb (by simp [z])) (fun z => hb (by simp [z])) q)) hf (Nat.le_refl _) new
    refine ⟨.ref s.heap.objs.size, _, I1, rfl, ⟨_, x, rfl, I.hok.fresh (Nat.le_refl _), rfl, fun ys hy => by rw [I.tuple_inj hy hq]; exact hx⟩, ⟨⟨u, ?_⟩, hst'.1.at fun o q => (sb.2 it (Ne.symm hne)).trans q, hne⟩, fun b hb => ?_⟩
    · have e1 : ((i + 1 : Nat) : Int) = (i : Int) + 1 := by omega
      rw [e1]; exact he'
    · have hb' : b < s.heap.objs.size := by
        have e' : b = e ∨ b = it := by simpa using hb
        rcases e' with z | z
        · rw [z]; exact hel
        · rw [z]; exact hil
      rw [upd_ne (Nat.ne_of_lt hb')]
      exact (hf b hb).1
  done := by
    intro X hP hw hK hc i pins s σ H E I hf st hg
    subst hP hw hK
    obtain ⟨⟨old, he⟩, hit, hne⟩ := st
    obtain ⟨xs, hq, hx⟩ := hg
    obtain ⟨its, rv, p, hz⟩ := I.tuple hq
    obtain ⟨f0, f1, f2, f3, f4, f5⟩ := hf it (by simp)
    have hl := rv.length
    have en : its.toArray.size = i := by simp; omega
    exact wpAny_pyNext_enum_endD (Draws.tuple (A := X.A.in1) (I.ok.hd hc) it a hai its.toArray) he (by rw [en]; exact ⟨hit, p⟩) fun h' eb => ⟨rfl, I.turned (t' := s.toks) (fun b o hb q => eb b o hb q) f0 f1 f3 f4 f5⟩
  self := fun A i s Q E st h => let ⟨⟨_, he⟩, _⟩ := st; wpAny_pyIter_enum he h
def iEnumT (K : PySem.W.Frag) (ta : TA) : TI := fun σ H R => ta σ H fun vs H1 => ∃ a xs, vs = [.ref a] ∧ SqT K H1 a xs ∧ R (IteT K a) H1
theorem pi_enumT {X : Cx} {e : Expr} {ta : TA} {p pos tpos : Pos} {elts : List Expr} {kk : Nat} (hg : Gl X "enumerate") (hm : X.mg "enumerate" = none) (ha : PA X [e] ta) (hs : starEach [e] X.env = [(false, eval e X.env)] := by rfl) :
    PI X (.Tuple elts kk tpos) (.Call (.Name "enumerate" p) [e] [] pos) (iEnumT X.K ta) := by
  refine ⟨fun pins s σ H R I h => ?_⟩
  refine Call_ (ld_blt I hg hm boot_enumerate (PyProof.Rows.callWith_type1 (thn (ha.run pos pins s σ H _ I h) fun us s1 ⟨vs, H1, I1, r1, q1⟩ => ?_) hs rfl))
  obtain ⟨a, xs, ex, hq, q⟩ := q1
  subst ex
  cases r1 with
  | cons r rr =>
    cases rr
    cases r
    obtain ⟨its, rv, p', hz⟩ := I1.tuple hq
    have hal : a < s1.heap.objs.size := by obtain ⟨_, z, _⟩ := p'; exact Heap.lt_size z
    refine call_enumerate_tuple p' fun h' he hit hsz hk => wpAny_pyIter_enum he ?_
    have I2 : Inv X pins σ H1 { s1 with heap := h' } := I1.kept (t' := s1.toks) hk
    refine ⟨s1.heap.objs.size + 1, [s1.heap.objs.size + 1, s1.heap.objs.size], _, _, H1, rfl, I2, turn_enumT a (s1.heap.objs.size + 1) s1.heap.objs.size (Nat.ne_of_lt (Nat.lt_succ_of_lt hal)) (Nat.ne_of_lt hal), ⟨⟨.none, he⟩, hit, Nat.succ_ne_self _⟩, fun b hb => ?_, q⟩
    have e' : b = s1.heap.objs.size + 1 ∨ b = s1.heap.objs.size := by simpa using hb
    have hle : s1.heap.objs.size ≤ b := by
      rcases e' with z | z
      · rw [z]; exact Nat.le_add_right _ _
      · rw [z]; exact Nat.le_refl _
    exact I1.fpOk hle (I1.hok.fresh hle)
theorem walk_enumT {K : PySem.W.Frag} {a : Addr} {xs : List V} : Walk (IteT K a) xs.length (fun H => SqT K H a xs) (YPair (fun i => some (.int (i : Nat))) (fun i => xs[i]?)) := by
  refine ⟨fun i _ hi q => ⟨xs, xs[i], q, by simp [hi]⟩, fun _ q => ⟨xs, q, rfl⟩, fun i H v H' _ q y => ?_⟩
  obtain ⟨T, x, h1, h2, h3, h4⟩ := y
  exact ⟨T, .int (i : Nat), x, h1, h2, h3, rfl, h4 xs q⟩
end Xt
set_option Elab.async false
set_option linter.all false
set_option maxRecDepth 100000
set_option maxHeartbeats 4000000
set_option pp.maxSteps 400
set_option pp.deepTerms false
namespace K21
open PySem PySem.Spec PyProof.Rows L2
open Xk Az
section
variable {P : Program} {w : World} {K : PySem.W.Frag} {mg : Str → Option Value} {base : Heap}
/-- the fields of a code -/
def bitq (c i : Nat) : Bool := decide (V.int (Builtin.bitAnd ((c : Int) / 2 ^ i) 1) = V.int 1)
def rlx (c k : Nat) : List Str := ((List.range k).filter (bitq c)).map fun i => fields.getD i ""
theorem rlx_ok : ∀ c, c < 32 → 0 < c → rlx c 5 ≠ [] ∧ rlx c 5 = keep (rlx c 5) ∧ (rlx c 5).length ≤ 5 := by decide +kernel
theorem rlx_in (c k : Nat) (h : k ≤ 5) : ∀ x ∈ rlx c k, x ∈ fields := fun x hx => by
  unfold rlx at hx
  obtain ⟨i, hi, rfl⟩ := List.mem_map.mp hx
  have := List.mem_range.mp (List.mem_filter.mp hi).1
  have l5 : fields.length = 5 := rfl
  rw [List.getD_eq_getElem?_getD, List.getElem?_eq_getElem (by omega)]
  exact List.getElem_mem _
/-- a rule's data -/
def rD (r : List Str) : PyData := .tuple (r.map PyData.str)
/-- rules where they stand -/
inductive RL (H : Hp) : List V → List (List Str) → Prop
  | nil : RL H [] []
  | cons {t : Addr} {r : List Str} {vs : List V} {rs : List (List Str)} : H t = some (.tup (r.map V.str)) → RL H vs rs → RL H (.ref t :: vs) (r :: rs)
theorem RL.tp {H H' : Hp} (s : ∀ t ys, H t = some (.tup ys) → H' t = some (.tup ys)) : ∀ {vs : List V} {rs : List (List Str)}, RL H vs rs → RL H' vs rs
  | _, _, .nil => .nil
  | _, _, .cons e r => .cons (s _ _ e) (r.tp s)
theorem RL.len {H : Hp} : ∀ {vs : List V} {rs : List (List Str)}, RL H vs rs → vs.length = rs.length
  | _, _, .nil => rfl
  | _, _, .cons _ r => by rw [List.length_cons, List.length_cons, r.len]
theorem RL.snoc {H : Hp} {t : Addr} {r : List Str} (e : H t = some (.tup (r.map V.str))) : ∀ {vs : List V} {rs : List (List Str)}, RL H vs rs → RL H (vs ++ [.ref t]) (rs ++ [r])
  | _, _, .nil => .cons e .nil
  | _, _, .cons e1 q => .cons e1 (q.snoc e)
theorem RL.dp {H : Hp} : ∀ {vs : List V} {rs : List (List Str)}, RL H vs rs → DpAll K H vs (rs.map rD)
  | _, _, .nil => .nil
  | _, _, .cons e r => .cons (.tup (SqT.of e) (dp_strs _)) r.dp
theorem dz_strs {H : Hp} : ∀ xs : List Str, DzAll K H (xs.map V.str) (xs.map PyData.str)
  | [] => .nil
  | x :: r => .cons (.str x) (dz_strs r)
theorem RL.dz {H : Hp} : ∀ {vs : List V} {rs : List (List Str)}, RL H vs rs → DzAll K H vs (rs.map rD)
  | _, _, .nil => .nil
  | _, _, .cons e r => .cons (.tup e (dz_strs _)) r.dz
theorem eqv_rD (a b : List Str) : PyData.eqv (rD a) (rD b) = decide (a = b) := by
  unfold rD
  rw [PyData.eqv]
  exact eqvAll_strs a b
theorem any_rD (a : List Str) (rs : List (List Str)) : ((rs.map rD).any fun z => PyData.eqv z (rD a)) = decide (a ∈ rs) := by
  induction rs with
  | nil => rfl
  | cons b r ih =>
    rw [List.map_cons, List.any_cons, ih, eqv_rD, ← Bool.decide_or]
    exact decide_eq_decide.mpr (by rw [List.mem_cons]; exact ⟨fun z => z.elim (fun y => .inl y.symm) .inr, fun z => z.elim (fun y => .inl y.symm) .inr⟩)
theorem shaped_rD {r : List Str} (h : ∀ x ∈ r, x ∈ fields) : SeqAt.shaped (rD r) = true := by
  have h7 : ∀ x ∈ r, ∀ c ∈ x.cps.toList, c < 128 := fun x hx => fields7 x (h x hx)
  unfold SeqAt.shaped rD
  have h1 : (PyData.tuple (r.map PyData.str)).canLay0 = true := by simp only [PyData.canLay0]; exact lay_strs h7
  have h2 : (PyData.tuple (r.map PyData.str)).depth ≤ 64 := by
    simp only [PyData.depth]
    have := dep_strs r
    omega
  rw [h1, decide_eq_true h2]
  rfl
theorem shaped_rDs {rs : List (List Str)} (h : ∀ r ∈ rs, ∀ x ∈ r, x ∈ fields) : SeqAt.shaped (.list (rs.map rD)) = true := by
  have a : ∀ {rs : List (List Str)}, (∀ r ∈ rs, ∀ x ∈ r, x ∈ fields) → PyData.canLayAll0 (rs.map rD) = true ∧ PyData.depthAll (rs.map rD) ≤ 1 := by
    intro rs
    induction rs with
    | nil => intro _; simp [PyData.canLayAll0, PyData.depthAll]
    | cons r q ih =>
      intro h
      obtain ⟨a1, a2⟩ := ih fun r hr => h r (List.mem_cons_of_mem _ hr)
      have h7 : ∀ x ∈ r, ∀ c ∈ x.cps.toList, c < 128 := fun x hx => fields7 x (h r List.mem_cons_self x hx)
      have b := dep_strs r
      refine ⟨?_, ?_⟩
      · simp only [List.map_cons, PyData.canLayAll0, a1, Bool.and_true]
        unfold rD
        simp only [PyData.canLay0]
        exact lay_strs h7
      · simp only [List.map_cons, PyData.depthAll]
        unfold rD at a2 ⊢
        simp only [PyData.depth]
        omega
  obtain ⟨a1, a2⟩ := a h
  unfold SeqAt.shaped
  have h1 : (PyData.list (rs.map rD)).canLay0 = true := by simp only [PyData.canLay0]; exact a1
  have h2 : (PyData.list (rs.map rD)).depth ≤ 64 := by
    simp only [PyData.depth]
    omega
  rw [h1, decide_eq_true h2]
  rfl
theorem all_strs (r : List Str) : (r.map PyData.str).all isStr = true := by
  rw [List.all_map]
  exact List.all_eq_true.mpr fun _ _ => rfl
theorem txs_strs : ∀ r : List Str, txs (r.map PyData.str) = r
  | [] => rfl
  | x :: r => by
    show x :: txs (r.map PyData.str) = _
    rw [txs_strs r]
theorem r65 {k : Nat} {A : Around} (r : Room k A) : A.units + 65 < cLine := by have := r.un; omega
theorem Hd.ntup {h o t : Addr} {n : Int} {H : Hp} {ys : List V} (a : Hd h o n H) (e : H t = some (.tup ys)) : t ∉ [h, o] := fun m => by
  obtain ⟨gs, m', c, r1, r2, _⟩ := a
  simp only [List.mem_cons, List.not_mem_nil, or_false] at m
  rcases m with z | z
  · rw [z, r1] at e; cases e
  · rw [z, r2] at e; cases e
def spRl (K : PySem.W.Frag) : Sp := fun vs H Q _ => ∃ (h o : Addr) (n : Int), vs = [.ref h] ∧ Hd h o n H ∧ n + 100 ≤ far ∧
  ∀ (t : Addr) (vs : List V) (rs : List (List Str)) H', H' t = some (.tup vs) → RL H' vs rs → 1 ≤ rs.length → rs.length ≤ 6 → rs.Nodup → (∀ r ∈ rs, ∃ c, c < 32 ∧ 0 < c ∧ r = rlx c 5) → Hd h o (n + 30) H' → Bt [h, o] H H' → Q (.ref t) H'
theorem ok_rl {f : Addr} {fd : FuncData} (D : Df K mg "_law_rules" ["_law_hand_here"] sLawRules f fd) (T : Txt K mg) (cT : Ca P w K mg base 1 "_law_take" ["_law_hand_here", "_law_many"] spTake) (cP : Ca P w K mg base 2 "_law_pick" ["_law_hand_here", "_law_some"] spPick) : FnOk P w K mg base CX0 3 f fd ["_law_hand_here"] (spRl K) := by
  refine D.fn.ok scLawRules (fun vs H Q E h => ?_) (fun cdv A outer s H vs Q E hr h => ?_)
  · obtain ⟨h, o, n, rfl, hd, hn, q⟩ := h
    rfl
  · obtain ⟨h, o, n, rfl, hd, hn, q⟩ := h
    refine ⟨_, (pss_cons (ps_set (i := 1) scLawRules.nd rfl (.inl rfl) (pe_lst pa_nil))
      (pss_cons (ps_for PassesOwn.never rfl (pi_range1 (by rfl) T.range (pa_cons (pe_ifExp (pt_cmpR op_eq (pe_ca cT hr (by decide) (by rfl) (pa_cons (pv 0) (pa_cons pe_int pa_nil))) pe_int (nomark _)) pe_int (pe_op op_add pe_int (pe_ca cT hr (by decide) (by rfl) (pa_cons (pv 0) (pa_cons pe_int pa_nil))))) pa_nil)) (pg_name (i := 2) scLawRules.nd rfl (.inl rfl)) (pss_cons (ps_set (i := 3) scLawRules.nd rfl (.inl rfl) (pe_op op_add pe_int (pe_ca cT hr (by decide) (by rfl) (pa_cons (pv 0) (pa_cons pe_int pa_nil)))))
      (pss_cons (ps_set (i := 4) scLawRules.nd rfl (.inr rfl) (pe_ca cP hr (by decide) (by rfl) (pa_cons (pv 0) (pa_cons (pe_lst (pa_cons pe_int (pa_cons pe_int (pa_cons pe_int (pa_cons pe_int (pa_cons pe_int (pa_cons pe_int (pa_cons pe_int (pa_cons pe_int (pa_cons pe_int (pa_cons pe_int (pa_cons pe_int (pa_cons pe_int (pa_cons (pv 3) (pa_cons (pv 3) pa_nil))))))))))))))) pa_nil))))
      (pss_cons (ps_set (i := 5) scLawRules.nd rfl (.inl rfl) (pe_tup (pa_cons pe_str (pa_cons pe_str (pa_cons pe_str (pa_cons pe_str (pa_cons pe_str pa_nil)))))))
      (pss_cons (ps_set (i := 6) scLawRules.nd rfl (.inl rfl) (pe_callTy call_tuple_of (by rfl) T.tuple (by decide +kernel) (pa_cons (pe_lc (own := [("_law_at", 7), ("_law_field", 8)]) (g := (gTup K 2 (gCons (gName 7) (gCons (gName 8) gNil)))) (by rfl) scLawRules.nd (Xt.pi_enumT (by rfl) T.enumerate (pa_cons (pv 5) pa_nil)) (blkOk_by (own := [("_law_at", 7), ("_law_field", 8)]) (N := ["_law_hand_here", "_law_found", "_law_turn", "_law_any_code", "_law_code", "_law_fields", "_law_rule", "_law_at", "_law_field"]) (sc := defScope sLawRules) (by decide +kernel)) (fun _ _ _ _ _ => pg_tup (by rfl) (pgs_cons (pg_name (i := 7) scLawRules.nd rfl (.inl rfl)) (pgs_cons (pg_name (i := 8) scLawRules.nd rfl (.inl rfl)) pgs_nil))) (fun _ _ _ _ _ => (pts_one (pt_cmpR op_eq (pe_op op_and (pe_op op_shr (pv 4) (pv 7)) pe_int) pe_int (nomark _)))) (fun _ _ _ _ _ => pv 8)) pa_nil)))
      (pss_one (ps_if (pt_cmpR (op_notInD (r65 hr)) (pv 6) (pv 1) (by rfl)) (pss_one (ps_expr (pe_bm PySem.F.plainAttrs_list PySem.F.slot_list_append PySem.F.type_list_append mt_append (pv 1) (pa_cons (pv 6) pa_nil)))) pss_nil)))))))
      (pss_one (ps_ret (pe_callTy call_tuple_of (by rfl) T.tuple (by decide +kernel) (pa_cons (pv 1) pa_nil)))))), ?_⟩
    have fr : n + 100 ≤ 1000000 := hn
    refine ⟨(by show 0 ≤ sizeLine; decide), fun L nL => ?_⟩
    have sL := same_upd nL (o := .lst [])
    have eL : (L2.upd H L (.lst [])) L = some (.lst []) := upd_same
    have hL := hd.same sL
    have Lo := hd.fresh nL
    have bL := Bt.of (A := [h, o]) sL
    generalize L2.upd H L (.lst []) = H0 at eL hL bL ⊢
    refine ⟨_, rfl, h, o, 8, n, rfl, by decide, by decide, hL, by show n ≤ 1000000; omega, fun d H1 d0 d1 h1 b1 => ⟨rfl, _, rfl, ite2 (fun e1 => ?_) (fun e1 => ?_)⟩⟩
    · have hx := h1
      have bx := bL.trans b1
      have eLx := b1 _ _ Lo eL
      have m1 : (1 : Int) ≤ 6 := by decide
      have m6 : (6 : Int) ≤ 6 := by decide
      refine ⟨6, rfl, by decide, by decide, ?_⟩
      refine for_range (lo := 0) (n := (6 : Int).toNat) (fun k σ Hi => ∃ (c2 c3 c4 c5 c6 c7 c8 : Option V) (vs : List V) (rs : List (List Str)), σ = [some (.ref h), some (.ref L), c2, c3, c4, c5, c6, c7, c8] ∧ Hi L = some (.lst vs) ∧ RL Hi vs rs ∧ rs.length ≤ k ∧ (0 < k → rs ≠ []) ∧ rs.Nodup ∧ (∀ r ∈ rs, ∃ c, c < 32 ∧ 0 < c ∧ r = rlx c 5) ∧ Hd h o (n + 1 + 2 * k) Hi ∧ Bt [h, o] H Hi) ⟨_, _, _, _, _, _, _, [], [], rfl, eLx, .nil, Nat.le_refl _, (fun z => by cases z), List.nodup_nil, (fun r hr => by cases hr), hx.mono (by omega), bx⟩ ?_ ?_
      · rintro k σ Hi hk ⟨c2, c3, c4, c5, c6, c7, c8, vs, rs, rfl, eLi, rl, kl, kn, nd, ok, hi, bi⟩
        have k6 : k < 6 := by omega
        have Lt : ∀ Hx Hy, Bt [h, o] Hx Hy → Hd h o (n + 1 + 2 * k) Hx → ∀ t ys, Hx t = some (.tup ys) → Hy t = some (.tup ys) := fun Hx Hy b hh t ys e => b t _ (hh.ntup e) e
        refine ⟨_, rfl, h, o, 31, n + 1 + 2 * k, rfl, by decide, by decide, hi, by show n + 1 + 2 * (k : Int) ≤ 1000000; omega, fun d3 H3 a0 a1 h3 b3 => ⟨1, d3, rfl, rfl, ?_⟩⟩
        refine ⟨_, rfl, _, rfl, _, rfl, (by show 14 ≤ sizeLine; decide), fun P nP => ?_⟩
        have sP := same_upd nP (o := .lst [.int 1, .int 2, .int 4, .int 8, .int 16, .int 3, .int 5, .int 6, .int 10, .int 18, .int 24, .int 9, .int (1 + d3), .int (1 + d3)])
        refine ⟨h, o, n + 1 + 2 * k + 1, _, rfl, h3.same sP, by show n + 1 + 2 * (k : Int) + 1 ≤ 1000000; omega, .inl ⟨P, _, rfl, upd_same, h3.fresh nP, by simp, by show 14 < 1000; decide, fun v H4 mv h4 b4 => ?_⟩⟩
        obtain ⟨c, rfl, c0, c1⟩ : ∃ c : Nat, v = .int (c : Int) ∧ 0 < c ∧ c < 32 := by
          simp only [List.mem_cons, List.not_mem_nil, or_false] at mv
          have an : ∀ z : Int, v = .int z → 0 < z → z < 32 → ∃ c : Nat, v = .int (c : Int) ∧ 0 < c ∧ c < 32 := fun z e q1 q2 => ⟨z.toNat, by rw [e, Int.toNat_of_nonneg (by omega)], by omega, by omega⟩
          rcases mv with e | e | e | e | e | e | e | e | e | e | e | e | e | e <;> exact an _ e (by omega) (by omega)
        have b34 : Bt [h, o] Hi H4 := b3.trans ((Bt.of sP).trans b4)
        have eL4 := b34 _ _ Lo eLi
        have rl4 := rl.tp (Lt _ _ b34 hi)
        clear mv sP nP h3 b3
        refine ⟨(by show 5 ≤ sizeLine; decide), fun T5 nT => ?_⟩
        have sT := same_upd nT (o := .tup [.str "code", .str "title", .str "players", .str "day", .str "length"])
        have eT : (L2.upd H4 T5 (.tup [.str "code", .str "title", .str "players", .str "day", .str "length"])) T5 = some (.tup (fields.map V.str)) := upd_same
        have h5 := h4.same sT
        have b5 := b34.trans (Bt.of sT)
        have eL5 := sT _ _ eL4
        have rl5 := rl4.tp (fun t ys e => sT _ _ e)
        generalize L2.upd H4 T5 (.tup [.str "code", .str "title", .str "players", .str "day", .str "length"]) = H5 at eT h5 b5 eL5 rl5 ⊢
        refine ⟨_, rfl, T5, _, rfl, SqT.of eT, fun D nD => ?_⟩
        refine lc_it (Xt.walk_enumT (K := K) (a := T5) (xs := fields.map V.str)) (fun j Hj => L2.Same H5 Hj ∧ Hj D = some (.lst ((rlx c j).map V.str))) ⟨same_upd nD, upd_same⟩ (fun j Hj _ z => SqT.of (z.1 _ _ eT)) ?_ ?_
        · rintro j v Hj Hj' hj ⟨sj, eD⟩ ⟨t, x, z, rfl, nt, rfl, ex, ez⟩
          obtain rfl : V.int (j : Nat) = x := Option.some.inj ex
          have ez : (fields.map V.str)[j]? = some z := ez
          rw [List.getElem?_map] at ez
          obtain ⟨fl, ef, rfl⟩ := Option.map_eq_some_iff.mp ez
          have j5 : j < 5 := hj
          have st := same_upd nt (o := .tup [.int (j : Nat), .str fl])
          have kl : (rlx c j).length ≤ j := by
            unfold rlx
            rw [List.length_map]
            exact Nat.le_trans (List.length_filter_le _ _) (by rw [List.length_range]; exact Nat.le_refl _)
          have nx : rlx c (j + 1) = rlx c j ++ if bitq c j = true then [fl] else [] := by
            unfold rlx
            rw [List.range_succ, List.filter_append, List.map_append]
            have gd : fields.getD j "" = fl := by rw [List.getD_eq_getElem?_getD, ef]; rfl
            by_cases b : bitq c j = true
            · rw [if_pos b, List.filter_cons_of_pos b, List.filter_nil, List.map_cons, List.map_nil, gd]
            · rw [if_neg b, List.filter_cons_of_neg b, List.filter_nil, List.map_nil]
          refine ⟨t, _, rfl, SqT.of upd_same, rfl, _, _, rfl, _, _, rfl, rfl, rfl, ?_⟩
          refine ⟨_, rfl, _, rfl, _, _, rfl, rfl, Int.natCast_nonneg _, _, _, rfl, rfl, rfl, _, rfl, ?_⟩
          show (if bitq c j = true then _ else _)
          by_cases b : bitq c j = true
          · rw [if_pos b] at nx
            rw [b]
            refine iteT ⟨_, rfl, _, st _ _ eD, ?_, fun b o e => ?_, ?_⟩
            · rw [List.length_map]
              exact Nat.lt_of_le_of_lt (show (rlx c j).length ≤ 5 by omega) (by decide)
            · rw [upd_ne (ne_of_none e nD)]
              exact st _ _ (sj _ _ e)
            · rw [upd_same, nx, List.map_append]
              rfl
          · rw [if_neg b, List.append_nil] at nx
            rw [Bool.eq_false_iff.mpr b]
            exact iteF ⟨sj.trans st, by rw [nx]; exact st _ _ eD⟩
        rintro H6 ⟨s6, eD⟩
        have eD : H6 D = some (.lst ((rlx c 5).map V.str)) := eD
        refine ⟨D, _, rfl, .inl ⟨SqL.of eD, fun T6 n6 => ?_⟩⟩
        have s7 := s6.trans (same_upd n6 (o := .tup ((rlx c 5).map V.str)))
        have e7 : (L2.upd H6 T6 (.tup ((rlx c 5).map V.str))) T6 = some (.tup ((rlx c 5).map V.str)) := upd_same
        have eL7 := s7 _ _ eL5
        have rl7 := rl5.tp (fun t ys e => s7 _ _ e)
        have h7 := h5.same s7
        have b7 := b5.trans (Bt.of s7)
        generalize L2.upd H6 T6 (.tup ((rlx c 5).map V.str)) = H7 at e7 eL7 rl7 h7 b7 ⊢
        have inF : ∀ r ∈ rs, ∀ x ∈ r, x ∈ fields := fun r hr x hx => by
          obtain ⟨c', _, _, e⟩ := ok r hr
          rw [e] at hx
          exact rlx_in c' 5 (Nat.le_refl _) x hx
        refine ⟨_, rfl, _, rfl, rD (rlx c 5), .map rD rs, .tup (SqT.of e7) (dp_strs _), .lst (SqL.of eL7) rl7.dp, shaped_rD (rlx_in c 5 (Nat.le_refl _)), shaped_rDs inF, _, rfl, ?_⟩
        rw [any_rD]
        by_cases m : rlx c 5 ∈ rs
        · rw [decide_eq_true m]
          refine iteF ⟨_, _, _, _, _, _, _, vs, rs, rfl, eL7, rl7, by omega, fun _ z => (by rw [z] at m; cases m), nd, ok, h7.mono (by omega), bi.trans b7⟩
        · rw [decide_eq_false m]
          have vl := rl7.len
          have Lt2 : ∀ t ys, H7 t = some (.tup ys) → (upd H7 L (.lst (vs ++ [.ref T6]))) t = some (.tup ys) := fun t ys e => by
            rw [upd_ne (ne_of e eL7 (by intro z; cases z))]
            exact e
          refine iteT ⟨_, rfl, .inl ⟨rfl, _, SqL.of eL7⟩, _, rfl, L, vs, .ref T6, rfl, rfl, eL7, Nat.lt_of_le_of_lt (show vs.length ≤ 10 by omega) (by decide), ?_⟩
          refine ⟨_, _, _, _, _, _, _, vs ++ [.ref T6], rs ++ [rlx c 5], rfl, upd_same, (rl7.tp Lt2).snoc (Lt2 _ _ e7), by rw [List.length_append]; show rs.length + 1 ≤ k + 1; omega, fun _ z => (by simp at z), ?_, fun r hr => ?_, (h7.upd Lo).mono (by omega), fun x o2 nx2 e => ?_⟩
          · rw [List.nodup_append]
            exact ⟨nd, by simp, fun a ha y hy z => m (by rw [← List.mem_singleton.mp hy, ← z]; exact ha)⟩
          · rcases List.mem_append.mp hr with z | z
            · exact ok r z
            · exact ⟨c, c1, c0, List.mem_singleton.mp z⟩
          · rw [upd_ne (ne_of_none e nL)]
            exact (bi.trans b7) x o2 nx2 e
      rintro σ He ⟨c2, c3, c4, c5, c6, c7, c8, vs, rs, rfl, eLe, rl, kl, kn, nd, ok, he, be⟩
      refine ⟨_, rfl, L, _, rfl, .inl ⟨SqL.of eLe, fun t nt => ?_⟩⟩
      have st := same_upd nt (o := .tup vs)
      have kp : 0 < (6 : Int).toNat := by omega
      have rp : 0 < rs.length := List.length_pos_iff.mpr (kn kp)
      exact q t vs rs _ upd_same (rl.tp fun t ys e => st _ _ e) rp (by omega) nd ok ((he.same st).mono (by omega)) (be.trans (Bt.of st))
    · refine ⟨_, rfl, h, o, 4, n + 1, rfl, by decide, by decide, h1, by show n + 1 ≤ 1000000; omega, fun d2 H2 d3 d4 h2 b2 => ⟨1, d2, rfl, rfl, ?_⟩⟩
      have hx := h2
      have bx := (bL.trans b1).trans b2
      have eLx := b2 _ _ Lo (b1 _ _ Lo eL)
      have m1 : (1 : Int) ≤ 1 + d2 := by omega
      have m6 : (1 : Int) + d2 ≤ 6 := by omega
      refine ⟨1 + d2, rfl, by omega, by omega, ?_⟩
      refine for_range (lo := 0) (n := (1 + d2).toNat) (fun k σ Hi => ∃ (c2 c3 c4 c5 c6 c7 c8 : Option V) (vs : List V) (rs : List (List Str)), σ = [some (.ref h), some (.ref L), c2, c3, c4, c5, c6, c7, c8] ∧ Hi L = some (.lst vs) ∧ RL Hi vs rs ∧ rs.length ≤ k ∧ (0 < k → rs ≠ []) ∧ rs.Nodup ∧ (∀ r ∈ rs, ∃ c, c < 32 ∧ 0 < c ∧ r = rlx c 5) ∧ Hd h o (n + 1 + 1 + 2 * k) Hi ∧ Bt [h, o] H Hi) ⟨_, _, _, _, _, _, _, [], [], rfl, eLx, .nil, Nat.le_refl _, (fun z => by cases z), List.nodup_nil, (fun r hr => by cases hr), hx.mono (by omega), bx⟩ ?_ ?_
      · rintro k σ Hi hk ⟨c2, c3, c4, c5, c6, c7, c8, vs, rs, rfl, eLi, rl, kl, kn, nd, ok, hi, bi⟩
        have k6 : k < 6 := by omega
        have Lt : ∀ Hx Hy, Bt [h, o] Hx Hy → Hd h o (n + 1 + 1 + 2 * k) Hx → ∀ t ys, Hx t = some (.tup ys) → Hy t = some (.tup ys) := fun Hx Hy b hh t ys e => b t _ (hh.ntup e) e
        refine ⟨_, rfl, h, o, 31, n + 1 + 1 + 2 * k, rfl, by decide, by decide, hi, by show n + 1 + 1 + 2 * (k : Int) ≤ 1000000; omega, fun d3 H3 a0 a1 h3 b3 => ⟨1, d3, rfl, rfl, ?_⟩⟩
        refine ⟨_, rfl, _, rfl, _, rfl, (by show 14 ≤ sizeLine; decide), fun P nP => ?_⟩
        have sP := same_upd nP (o := .lst [.int 1, .int 2, .int 4, .int 8, .int 16, .int 3, .int 5, .int 6, .int 10, .int 18, .int 24, .int 9, .int (1 + d3), .int (1 + d3)])
        refine ⟨h, o, n + 1 + 1 + 2 * k + 1, _, rfl, h3.same sP, by show n + 1 + 1 + 2 * (k : Int) + 1 ≤ 1000000; omega, .inl ⟨P, _, rfl, upd_same, h3.fresh nP, by simp, by show 14 < 1000; decide, fun v H4 mv h4 b4 => ?_⟩⟩
        obtain ⟨c, rfl, c0, c1⟩ : ∃ c : Nat, v = .int (c : Int) ∧ 0 < c ∧ c < 32 := by
          simp only [List.mem_cons, List.not_mem_nil, or_false] at mv
          have an : ∀ z : Int, v = .int z → 0 < z → z < 32 → ∃ c : Nat, v = .int (c : Int) ∧ 0 < c ∧ c < 32 := fun z e q1 q2 => ⟨z.toNat, by rw [e, Int.toNat_of_nonneg (by omega)], by omega, by omega⟩
          rcases mv with e | e | e | e | e | e | e | e | e | e | e | e | e | e <;> exact an _ e (by omega) (by omega)
        have b34 : Bt [h, o] Hi H4 := b3.trans ((Bt.of sP).trans b4)
        have eL4 := b34 _ _ Lo eLi
        have rl4 := rl.tp (Lt _ _ b34 hi)
        clear mv sP nP h3 b3
        refine ⟨(by show 5 ≤ sizeLine; decide), fun T5 nT => ?_⟩
        have sT := same_upd nT (o := .tup [.str "code", .str "title", .str "players", .str "day", .str "length"])
        have eT : (L2.upd H4 T5 (.tup [.str "code", .str "title", .str "players", .str "day", .str "length"])) T5 = some (.tup (fields.map V.str)) := upd_same
        have h5 := h4.same sT
        have b5 := b34.trans (Bt.of sT)
        have eL5 := sT _ _ eL4
        have rl5 := rl4.tp (fun t ys e => sT _ _ e)
        generalize L2.upd H4 T5 (.tup [.str "code", .str "title", .str "players", .str "day", .str "length"]) = H5 at eT h5 b5 eL5 rl5 ⊢
        refine ⟨_, rfl, T5, _, rfl, SqT.of eT, fun D nD => ?_⟩
        refine lc_it (Xt.walk_enumT (K := K) (a := T5) (xs := fields.map V.str)) (fun j Hj => L2.Same H5 Hj ∧ Hj D = some (.lst ((rlx c j).map V.str))) ⟨same_upd nD, upd_same⟩ (fun j Hj _ z => SqT.of (z.1 _ _ eT)) ?_ ?_
        · rintro j v Hj Hj' hj ⟨sj, eD⟩ ⟨t, x, z, rfl, nt, rfl, ex, ez⟩
          obtain rfl : V.int (j : Nat) = x := Option.some.inj ex
          have ez : (fields.map V.str)[j]? = some z := ez
          rw [List.getElem?_map] at ez
          obtain ⟨fl, ef, rfl⟩ := Option.map_eq_some_iff.mp ez
          have j5 : j < 5 := hj
          have st := same_upd nt (o := .tup [.int (j : Nat), .str fl])
          have kl : (rlx c j).length ≤ j := by
            unfold rlx
            rw [List.length_map]
            exact Nat.le_trans (List.length_filter_le _ _) (by rw [List.length_range]; exact Nat.le_refl _)
          have nx : rlx c (j + 1) = rlx c j ++ if bitq c j = true then [fl] else [] := by
            unfold rlx
            rw [List.range_succ, List.filter_append, List.map_append]
            have gd : fields.getD j "" = fl := by rw [List.getD_eq_getElem?_getD, ef]; rfl
            by_cases b : bitq c j = true
            · rw [if_pos b, List.filter_cons_of_pos b, List.filter_nil, List.map_cons, List.map_nil, gd]
            · rw [if_neg b, List.filter_cons_of_neg b, List.filter_nil, List.map_nil]
          refine ⟨t, _, rfl, SqT.of upd_same, rfl, _, _, rfl, _, _, rfl, rfl, rfl, ?_⟩
          refine ⟨_, rfl, _, rfl, _, _, rfl, rfl, Int.natCast_nonneg _, _, _, rfl, rfl, rfl, _, rfl, ?_⟩
          show (if bitq c j = true then _ else _)
          by_cases b : bitq c j = true
          · rw [if_pos b] at nx
            rw [b]
            refine iteT ⟨_, rfl, _, st _ _ eD, ?_, fun b o e => ?_, ?_⟩
            · rw [List.length_map]
              exact Nat.lt_of_le_of_lt (show (rlx c j).length ≤ 5 by omega) (by decide)
            · rw [upd_ne (ne_of_none e nD)]
              exact st _ _ (sj _ _ e)
            · rw [upd_same, nx, List.map_append]
              rfl
          · rw [if_neg b, List.append_nil] at nx
            rw [Bool.eq_false_iff.mpr b]
            exact iteF ⟨sj.trans st, by rw [nx]; exact st _ _ eD⟩
        rintro H6 ⟨s6, eD⟩
        have eD : H6 D = some (.lst ((rlx c 5).map V.str)) := eD
        refine ⟨D, _, rfl, .inl ⟨SqL.of eD, fun T6 n6 => ?_⟩⟩
        have s7 := s6.trans (same_upd n6 (o := .tup ((rlx c 5).map V.str)))
        have e7 : (L2.upd H6 T6 (.tup ((rlx c 5).map V.str))) T6 = some (.tup ((rlx c 5).map V.str)) := upd_same
        have eL7 := s7 _ _ eL5
        have rl7 := rl5.tp (fun t ys e => s7 _ _ e)
        have h7 := h5.same s7
        have b7 := b5.trans (Bt.of s7)
        generalize L2.upd H6 T6 (.tup ((rlx c 5).map V.str)) = H7 at e7 eL7 rl7 h7 b7 ⊢
        have inF : ∀ r ∈ rs, ∀ x ∈ r, x ∈ fields := fun r hr x hx => by
          obtain ⟨c', _, _, e⟩ := ok r hr
          rw [e] at hx
          exact rlx_in c' 5 (Nat.le_refl _) x hx
        refine ⟨_, rfl, _, rfl, rD (rlx c 5), .map rD rs, .tup (SqT.of e7) (dp_strs _), .lst (SqL.of eL7) rl7.dp, shaped_rD (rlx_in c 5 (Nat.le_refl _)), shaped_rDs inF, _, rfl, ?_⟩
        rw [any_rD]
        by_cases m : rlx c 5 ∈ rs
        · rw [decide_eq_true m]
          refine iteF ⟨_, _, _, _, _, _, _, vs, rs, rfl, eL7, rl7, by omega, fun _ z => (by rw [z] at m; cases m), nd, ok, h7.mono (by omega), bi.trans b7⟩
        · rw [decide_eq_false m]
          have vl := rl7.len
          have Lt2 : ∀ t ys, H7 t = some (.tup ys) → (upd H7 L (.lst (vs ++ [.ref T6]))) t = some (.tup ys) := fun t ys e => by
            rw [upd_ne (ne_of e eL7 (by intro z; cases z))]
            exact e
          refine iteT ⟨_, rfl, .inl ⟨rfl, _, SqL.of eL7⟩, _, rfl, L, vs, .ref T6, rfl, rfl, eL7, Nat.lt_of_le_of_lt (show vs.length ≤ 10 by omega) (by decide), ?_⟩
          refine ⟨_, _, _, _, _, _, _, vs ++ [.ref T6], rs ++ [rlx c 5], rfl, upd_same, (rl7.tp Lt2).snoc (Lt2 _ _ e7), by rw [List.length_append]; show rs.length + 1 ≤ k + 1; omega, fun _ z => (by simp at z), ?_, fun r hr => ?_, (h7.upd Lo).mono (by omega), fun x o2 nx2 e => ?_⟩
          · rw [List.nodup_append]
            exact ⟨nd, by simp, fun a ha y hy z => m (by rw [← List.mem_singleton.mp hy, ← z]; exact ha)⟩
          · rcases List.mem_append.mp hr with z | z
            · exact ok r z
            · exact ⟨c, c1, c0, List.mem_singleton.mp z⟩
          · rw [upd_ne (ne_of_none e nL)]
            exact (bi.trans b7) x o2 nx2 e
      rintro σ He ⟨c2, c3, c4, c5, c6, c7, c8, vs, rs, rfl, eLe, rl, kl, kn, nd, ok, he, be⟩
      refine ⟨_, rfl, L, _, rfl, .inl ⟨SqL.of eLe, fun t nt => ?_⟩⟩
      have st := same_upd nt (o := .tup vs)
      have kp : 0 < (1 + d2).toNat := by omega
      have rp : 0 < rs.length := List.length_pos_iff.mpr (kn kp)
      exact q t vs rs _ upd_same (rl.tp fun t ys e => st _ _ e) rp (by omega) nd ok ((he.same st).mono (by omega)) (be.trans (Bt.of st))
end
end K21
set_option Elab.async false
set_option linter.all false
set_option maxRecDepth 100000
set_option maxHeartbeats 4000000
set_option pp.maxSteps 400
set_option pp.deepTerms false
namespace K21
open PySem PySem.Spec PyProof.Rows L2
open Xk Az
section
variable {P : Program} {w : World} {K : PySem.W.Frag} {mg : Str → Option Value} {base : Heap}
def spDeep (K : PySem.W.Frag) : Sp := fun vs H Q _ => ∃ (h o : Addr) (n : Int), vs = [.ref h] ∧ Hd h o n H ∧ n + 100 ≤ far ∧
  ∀ v d H', Dz K (offS [h, o] H') v d → As d → W08.nc d ≤ 100 → Hd h o (n + 60) H' → Bt [h, o] H H' → Q v H'
theorem ok_deep {f : Addr} {fd : FuncData} (D : Df K mg "_law_deep" ["_law_hand_here"] sDeep f fd) (T : Txt K mg) (cT : Ca P w K mg base 1 "_law_take" ["_law_hand_here", "_law_many"] spTake) (cP : Ca P w K mg base 2 "_law_pick" ["_law_hand_here", "_law_some"] spPick) : FnOk P w K mg base CX0 3 f fd ["_law_hand_here"] (spDeep K) := by
  refine D.fn.ok scDeep (fun vs H Q E h => ?_) (fun cdv A outer s H vs Q E hr h => ?_)
  · obtain ⟨h, o, n, rfl, hd, hn, q⟩ := h
    rfl
  · obtain ⟨h, o, n, rfl, hd, hn, q⟩ := h
    refine ⟨_, (pss_cons (ps_set (i := 1) scDeep.nd rfl (.inl rfl) (pe_ca cP hr (by decide) (by rfl) (pa_cons (pv 0) (pa_cons (pe_lst (pa_cons (pe_tup (pa_cons pe_str pa_nil)) (pa_cons pe_str (pa_cons (pe_tup pa_nil) (pa_cons (pe_lstZ (pa_cons pe_str pa_nil)) (pa_cons pe_non (pa_cons pe_int pa_nil))))))) pa_nil))))
      (pss_cons (ps_for PassesOwn.never rfl (pi_range1 (by rfl) T.range (pa_cons (pe_op op_add pe_int (pe_ca cT hr (by decide) (by rfl) (pa_cons (pv 0) (pa_cons pe_int pa_nil)))) pa_nil)) (pg_name (i := 2) scDeep.nd rfl (.inl rfl)) (pss_one (ps_set (i := 1) scDeep.nd rfl (.inl rfl) (pe_ix ix_list (pe_lst (pa_cons (pe_tup (pa_cons (pv 1) pa_nil)) (pa_cons (pe_lstZ (pa_cons (pv 1) pa_nil)) (pa_cons (pe_tup (pa_cons pe_str (pa_cons (pv 1) pa_nil))) (pa_cons (pe_disp (pps_cons pe_str (pv 1) pps_nil) rfl rfl (by simp) (by decide)) pa_nil))))) (pe_ca cT hr (by decide) (by rfl) (pa_cons (pv 0) (pa_cons pe_int pa_nil))) (fun _ _ => rfl)))))
      (pss_one (ps_ret (pv 1))))), ?_⟩
    have fr : n + 100 ≤ 1000000 := hn
    refine ⟨_, rfl, (by show 1 ≤ sizeLine; decide), fun t1 n1 => ?_⟩
    have s0 := same_upd n1 (o := .tup [.str "code"])
    refine ⟨(by show 0 ≤ sizeLine; decide), fun t0 n0 => ?_⟩
    have s1 := same_upd n0 (o := .tup [])
    refine ⟨(by show 1 ≤ sizeLine; decide), fun l0 nl0 ne0 => ?_⟩
    have s2 := same_upd nl0 (o := .lst [.str "title"])
    refine ⟨(by show 6 ≤ sizeLine; decide), fun l1 nl1 => ?_⟩
    have s3 := same_upd nl1 (o := .lst [.ref t1, .str "code", .ref t0, .ref l0, .non, .int 3])
    have sA := ((s0.trans s1).trans s2).trans s3
    have t1A := hd.fresh n1
    have t0A := (hd.same s0).fresh n0
    have l0A := ((hd.same s0).same s1).fresh nl0
    have e2 := s3 _ _ (s2 _ _ (s1 _ _ (upd_same : (L2.upd H t1 (.tup [.str "code"])) t1 = _)))
    have e0 := s3 _ _ (s2 _ _ (upd_same : (L2.upd (L2.upd H t1 (.tup [.str "code"])) t0 (.tup [])) t0 = _))
    have e1 := s3 _ _ (upd_same : (L2.upd (L2.upd (L2.upd H t1 (.tup [.str "code"])) t0 (.tup [])) l0 (.lst [.str "title"])) l0 = _)
    refine ⟨h, o, n, _, rfl, hd.same sA, by show n ≤ 1000000; omega, .inl ⟨l1, _, rfl, upd_same, (((hd.same s0).same s1).same s2).fresh nl1, by simp, by show 6 < 1000; decide, fun v0 H1 mv h1 b1 => ?_⟩⟩
    have f2 := b1 _ _ t1A e2
    have f0 := b1 _ _ t0A e0
    have f1 := b1 _ _ l0A e1
    have bt1 : Bt [h, o] H H1 := (Bt.of sA).trans b1
    obtain ⟨d0, z0, nc0, tx0⟩ : ∃ d, Dz K (offS [h, o] H1) v0 d ∧ As d ∧ W08.nc d ≤ 10 := by
      have ac : ∀ c ∈ ("code" : Str).cps.toList, c < 128 := by decide +kernel
      simp only [List.mem_cons, List.not_mem_nil, or_false] at mv
      rcases mv with e | e | e | e | e | e
      · subst e
        exact ⟨_, .tup (offS_at t1A f2) (.cons (.str "code") .nil), ⟨ac, trivial⟩, by decide⟩
      · subst e
        exact ⟨_, .str "code", ac, by decide⟩
      · subst e
        exact ⟨_, .tup (offS_at t0A f0) .nil, trivial, by decide⟩
      · subst e
        exact ⟨_, .lst (offS_at l0A f1) ne0 (.cons (.str "title") .nil), trivial, by decide⟩
      · subst e
        exact ⟨_, .non, trivial, by decide⟩
      · subst e
        exact ⟨_, .int 3, trivial, by decide⟩
    have ac : ∀ c ∈ ("code" : Str).cps.toList, c < 128 := by decide +kernel
    clear mv e0 e1 e2 s0 s1 s2 s3 sA f0 f1 f2 b1
    refine ⟨_, rfl, h, o, 28, n + 1, rfl, by decide, by decide, h1, by show n + 1 ≤ 1000000; omega, fun r H2 r0 r1 h2 b2 => ?_⟩
    refine ⟨1, r, rfl, rfl, _, rfl, by omega, by omega, for_range (lo := 0) (n := (1 + r).toNat) (fun k σ Hi => ∃ (v : V) (d : PyData) (c2 : Option V), σ = [some (.ref h), some v, c2] ∧ Dz K (offS [h, o] Hi) v d ∧ As d ∧ W08.nc d ≤ 10 + 2 * k ∧ Hd h o (n + 2 + k) Hi ∧ Bt [h, o] H Hi) ?_ ?_ ?_⟩
    · exact ⟨v0, d0, none, rfl, z0.same b2.off, nc0, by omega, h2.mono (by omega), bt1.trans b2⟩
    · rintro k σ Hi hk ⟨v, d, c2, rfl, dz, nc, tx, hdi, bi⟩
      have k28 : k < 29 := by omega
      refine ⟨_, rfl, (by show 1 ≤ sizeLine; decide), fun p1 n1 => ?_⟩
      have q1 := same_upd n1 (o := .tup [v])
      refine ⟨_, rfl, (by show 1 ≤ sizeLine; decide), fun p2 n2 ne2 => ?_⟩
      have q2 := same_upd n2 (o := .lst [v])
      refine ⟨_, rfl, (by show 2 ≤ sizeLine; decide), fun p3 n3 => ?_⟩
      have q3 := same_upd n3 (o := .tup [.str "code", v])
      intro p4 n4
      have a1 := hdi.fresh n1
      have a2 := (hdi.same q1).fresh n2
      have a3 := ((hdi.same q1).same q2).fresh n3
      have a4 := (((hdi.same q1).same q2).same q3).fresh n4
      refine ⟨_, rfl, upd_same, [(Sum.inr "code", v)], rfl, (by show 1 ≤ 15; decide), (by show 4 ≤ sizeLine; decide), fun l2 nl2 => ?_⟩
      have q4 : L2.Same (upd (upd (upd Hi p1 (.tup [v])) p2 (.lst [v])) p3 (.tup [.str "code", v])) (upd (upd (upd (upd (upd Hi p1 (.tup [v])) p2 (.lst [v])) p3 (.tup [.str "code", v])) p4 (.dK [])) p4 (.dK (mergeK [] [(Sum.inr "code", v)]))) := by
        rw [upd_upd]
        exact same_upd n4
      have q5 := same_upd nl2 (o := .lst [.ref p1, .ref p2, .ref p3, .ref p4])
      have hd5 := ((((hdi.same q1).same q2).same q3).same q4).same q5
      refine ⟨_, rfl, h, o, 4, n + 2 + k, rfl, by decide, by decide, hd5, by show n + 2 + (k : Int) ≤ 1000000; omega, fun a H5 a0 a1' h5 b5 => ?_⟩
      have l2A := ((((hdi.same q1).same q2).same q3).same q4).fresh nl2
      have al := (((q1.trans q2).trans q3).trans q4).trans q5
      have bt : Bt [h, o] Hi H5 := (Bt.of al).trans b5
      have dz5 : Dz K (offS [h, o] H5) v d := dz.same bt.off
      have g1 : H5 p1 = some (.tup [v]) := b5 _ _ a1 (q5 _ _ (q4 _ _ (q3 _ _ (q2 _ _ upd_same))))
      have g2 : H5 p2 = some (.lst [v]) := b5 _ _ a2 (q5 _ _ (q4 _ _ (q3 _ _ upd_same)))
      have g3 : H5 p3 = some (.tup [.str "code", v]) := b5 _ _ a3 (q5 _ _ (q4 _ _ upd_same))
      have g4 : H5 p4 = some (.dK [(Sum.inr "code", v)]) := b5 _ _ a4 (q5 _ _ upd_same)
      have g5 : H5 l2 = some (.lst [.ref p1, .ref p2, .ref p3, .ref p4]) := b5 _ _ l2A upd_same
      have nx : ∀ (x : Addr) (d' : PyData), Dz K (offS [h, o] H5) (.ref x) d' → As d' → W08.nc d' ≤ 10 + 2 * (k + 1) → ∃ (v2 : V) (d2 : PyData) (c2 : Option V), [some (V.ref h), some (V.ref x), some (.int (0 + (k : Int)))] = [some (V.ref h), some v2, c2] ∧
          Dz K (offS [h, o] H5) v2 d2 ∧ As d2 ∧ W08.nc d2 ≤ 10 + 2 * (k + 1) ∧ Hd h o (n + 2 + ((k + 1 : Nat) : Int)) H5 ∧ Bt [h, o] H H5 :=
        fun x d' w1 w2 w3 => ⟨_, d', _, rfl, w1, w2, w3, h5.mono (by omega), bi.trans bt⟩
      obtain ⟨j, rfl⟩ : ∃ j : Nat, a = (j : Int) := ⟨a.toNat, by omega⟩
      have hj : j < 4 := by omega
      match j, hj with
      | 0, _ => exact ⟨l2, _, _, _, rfl, rfl, SqL.of g5, atI_nat (j := 0) rfl, nx p1 (.tuple [d]) (.tup (offS_at a1 g1) (.cons dz5 .nil)) ⟨nc, trivial⟩ (by show W08.nc d + 0 + 1 ≤ _; omega)⟩
      | 1, _ => exact ⟨l2, _, _, _, rfl, rfl, SqL.of g5, atI_nat (j := 1) rfl, nx p2 (.list [d]) (.lst (offS_at a2 g2) ne2 (.cons dz5 .nil)) trivial (by show W08.nc d + 0 + 1 ≤ _; omega)⟩
      | 2, _ => exact ⟨l2, _, _, _, rfl, rfl, SqL.of g5, atI_nat (j := 2) rfl, nx p3 (.tuple [.str "code", d]) (.tup (offS_at a3 g3) (.cons (.str "code") (.cons dz5 .nil))) ⟨ac, nc, trivial⟩ (by show 1 + (W08.nc d + 0) + 1 ≤ _; omega)⟩
      | 3, _ => exact ⟨l2, _, _, _, rfl, rfl, SqL.of g5, atI_nat (j := 3) rfl, nx p4 (.dict [(.str "code", d)]) (.dct (offS_at a4 g4) (.cons (k := Sum.inr "code") dz5 .nil)) trivial (by show 1 + W08.nc d + 0 + 1 ≤ _; omega)⟩
    rintro σ He ⟨v, d, c2, rfl, dz, nc, tx, hde, be⟩
    have rr : (1 + r).toNat ≤ 29 := by omega
    refine ⟨_, rfl, q v d He dz nc (by omega) (hde.mono ?_) be⟩
    omega
end
end K21
set_option Elab.async false
set_option linter.all false
set_option maxRecDepth 100000
set_option maxHeartbeats 4000000
set_option pp.maxSteps 400
set_option pp.deepTerms false
namespace K21
open PySem PySem.Spec PyProof.Rows L2
open Xk Az
section
variable {P : Program} {w : World} {K : PySem.W.Frag} {mg : Str → Option Value} {base : Heap}
section
variable {K : PySem.W.Frag} {A : List Addr} {H H' : Hp} {v w : V} {N M J N' M' : Nat} {Q : VK}
theorem ncs_sub {xs ys : List PyData} (s : xs.Sublist ys) : W08.ncs xs ≤ W08.ncs ys ∧ W08.sws xs ≤ W08.sws ys ∧ W08.dws xs ≤ W08.dws ys := by
  induction s with
  | slnil => exact ⟨Nat.le_refl _, Nat.le_refl _, Nat.le_refl _⟩
  | cons d _ ih =>
    simp only [W08.ncs, W08.sws, W08.dws]
    omega
  | cons_cons d _ ih =>
    simp only [W08.ncs, W08.sws, W08.dws]
    omega
theorem ncs_rev : ∀ xs : List PyData, W08.ncs xs.reverse = W08.ncs xs ∧ W08.sws xs.reverse = W08.sws xs ∧ W08.dws xs.reverse = W08.dws xs
  | [] => ⟨rfl, rfl, rfl⟩
  | d :: r => by
    obtain ⟨a, b, c⟩ := ncs_rev r
    rw [List.reverse_cons, W08.ncs_app, W08.sws_app, W08.dws_app, a, b, c]
    simp only [W08.ncs, W08.sws, W08.dws]
    omega
theorem dz_cat {H : Hp} : ∀ {xs ys : List V} {ds es : List PyData}, DzAll K H xs ds → DzAll K H ys es → DzAll K H (xs ++ ys) (ds ++ es)
  | _, _, _, _, .nil, h => h
  | _, _, _, _, .cons a r, h => .cons a (dz_cat r h)
theorem dz_rev {H : Hp} : ∀ {xs : List V} {ds : List PyData}, DzAll K H xs ds → DzAll K H xs.reverse ds.reverse
  | _, _, .nil => .nil
  | _, _, .cons a r => by
    rw [List.reverse_cons, List.reverse_cons]
    exact dz_cat (dz_rev r) (.cons a .nil)
theorem dz_drop {H : Hp} : ∀ (k : Nat) {xs : List V} {ds : List PyData}, DzAll K H xs ds → DzAll K H (xs.drop k) (ds.drop k)
  | 0, _, _, h => h
  | _ + 1, _, _, .nil => .nil
  | k + 1, _, _, .cons _ r => dz_drop k r
theorem dz_take {H : Hp} : ∀ (k : Nat) {xs : List V} {ds : List PyData}, DzAll K H xs ds → DzAll K H (xs.take k) (ds.take k)
  | 0, _, _, _ => .nil
  | _ + 1, _, _, .nil => .nil
  | k + 1, _, _, .cons a r => .cons a (dz_take k r)
def Lsd (A : List Addr) (H : Hp) : Prop := ∀ a ∈ A, ∃ ys, H a = some (.lst ys)
theorem Lsd.same (h : Lsd A H) (s : L2.Same H H') : Lsd A H' := fun a ha => (h a ha).imp fun _ e => s _ _ e
theorem Lsd.no (h : Lsd A H) {p : Addr} {xs : List V} (e : H p = some (.tup xs)) : p ∉ A := fun m => by
  obtain ⟨ys, z⟩ := h p m
  rw [e] at z
  cases z
theorem Hd.lsd {h o : Addr} {k : Int} (a : Hd h o k H) : Lsd [h, o] H := fun x hx => by
  obtain ⟨gs, m, c, r1, r2, _⟩ := a
  simp only [List.mem_cons, List.not_mem_nil, or_false] at hx
  rcases hx with z | z
  · rw [z]; exact ⟨_, r1⟩
  · rw [z]; exact ⟨_, r2⟩
/-- a tuple of things, of so much weight -/
def GW (K : PySem.W.Frag) (A : List Addr) (N M J : Nat) (H : Hp) (v : V) : Prop := ∃ (a : Addr) (xs : List V) (ds : List PyData), v = .ref a ∧ H a = some (.tup xs) ∧ a ∉ A ∧ DzAll K (offS A H) xs ds ∧ W08.oks ds ∧ W08.ncs ds ≤ N ∧ W08.sws ds ≤ M ∧ W08.dws ds ≤ J
theorem GW.bt (g : GW K A N M J H v) (s : Bt A H H') : GW K A N M J H' v := by
  obtain ⟨a, xs, ds, e1, e2, e3, e4, e5⟩ := g
  exact ⟨a, xs, ds, e1, s _ _ e3 e2, e3, e4.same s.off, e5⟩
theorem GW.same (g : GW K A N M J H v) (s : L2.Same H H') : GW K A N M J H' v := g.bt (Bt.of s)
theorem GW.dz (g : GW K A N M J H v) : ∃ d, Dz K (offS A H) v d ∧ W08.Bd d (N + 1) (M + 4) (J + 1) := by
  obtain ⟨a, xs, ds, rfl, e2, e3, e4, o, n, m, j⟩ := g
  exact ⟨_, .tup (offS_at e3 e2) e4, W08.bd_tup o n m j⟩
theorem cut_sub (ds : List PyData) (a b : Nat) : ((ds.drop a).take b).Sublist ds := (List.take_sublist _ _).trans (List.drop_sublist _ _)
theorem wd_cut {lo hi : Option Int} (ls : Lsd A H) (g : GW K A N M J H v) (q : ∀ p H', L2.Same H H' → GW K A N M J H' (.ref p) → Q (.ref p) H') : Xtu.rSlU v lo hi H Q := by
  obtain ⟨a, xs, ds, rfl, e, na, dz, o, n, m, j⟩ := g
  refine ⟨a, xs, rfl, e, fun p H' s e' => q p H' s ⟨p, _, (ds.drop (HT.sIx xs.length 0 lo)).take (HT.sIx xs.length xs.length hi - HT.sIx xs.length 0 lo), rfl, e', (ls.same s).no e', (dz_take _ (dz_drop _ dz)).same (Bt.of s).off, ?_, ?_⟩⟩
  · exact W08.oks_sub o fun d hd => (cut_sub ds _ _).mem hd
  · obtain ⟨a1, a2, a3⟩ := ncs_sub (cut_sub ds (HT.sIx xs.length 0 lo) (HT.sIx xs.length xs.length hi - HT.sIx xs.length 0 lo))
    exact ⟨Nat.le_trans a1 n, Nat.le_trans a2 m, Nat.le_trans a3 j⟩
theorem wd_cat {J' : Nat} (ls : Lsd A H) (g : GW K A N M J H v) (k : GW K A N' M' J' H w) (l : N + N' ≤ 3000) (q : ∀ p H', L2.Same H H' → GW K A (N + N') (M + M') (max J J') H' (.ref p) → Q (.ref p) H') : Xtu.rCatU v w H Q := by
  obtain ⟨a, xs, ds, rfl, e, na, dz, o, n, m, j⟩ := g
  obtain ⟨b, ys, es, rfl, f, nb, ez, o', n', m', j'⟩ := k
  have l1 := W08.len_ncs ds
  have l2 := W08.len_ncs es
  have l3 := dz_len dz
  have l4 := dz_len ez
  refine ⟨a, b, xs, ys, rfl, rfl, e, f, Nat.le_trans (show xs.length + ys.length ≤ 3000 by omega) (by decide), fun p H' s e' => q p H' s ⟨p, _, ds ++ es, rfl, e', (ls.same s).no e', (dz_cat dz ez).same (Bt.of s).off, ?_, ?_, ?_, ?_⟩⟩
  · exact W08.oks_iff.mpr fun d hd => (List.mem_append.mp hd).elim (W08.oks_iff.mp o d) (W08.oks_iff.mp o' d)
  · rw [W08.ncs_app]; omega
  · rw [W08.sws_app]; omega
  · rw [W08.dws_app]; omega
theorem wd_one {d : PyData} {n m j : Nat} (ls : Lsd A H) (g : Dz K (offS A H) v d) (b : W08.Bd d n m j) (q : ∀ p H', L2.Same H H' → GW K A n (m + 2) j H' (.ref p) → Q (.ref p) H') : [v].length ≤ sizeLine ∧ ∀ p, H p = none → Q (.ref p) (L2.upd H p (.tup [v])) :=
  ⟨(by show 1 ≤ sizeLine; decide), fun p np => q p _ (same_upd np) ⟨p, _, [d], rfl, upd_same, (ls.same (same_upd np)).no (xs := [v]) upd_same, (DzAll.cons g .nil).same (Bt.of (same_upd np)).off, ⟨b.o, trivial⟩, (by have := b.n; simp only [W08.ncs]; omega), (by have := b.s; simp only [W08.sws]; omega), (by have := b.d; simp only [W08.dws]; omega)⟩⟩
theorem gw_one {d : PyData} {n m j : Nat} {p : Addr} (ls : Lsd A H) (g : Dz K (offS A H) v d) (b : W08.Bd d n m j) (np : H p = none) : GW K A n (m + 2) j (L2.upd H p (.tup [v])) (.ref p) :=
  ⟨p, _, [d], rfl, upd_same, (ls.same (same_upd np)).no (xs := [v]) upd_same, (DzAll.cons g .nil).same (Bt.of (same_upd np)).off, ⟨b.o, trivial⟩, (by have := b.n; simp only [W08.ncs]; omega), (by have := b.s; simp only [W08.sws]; omega), (by have := b.d; simp only [W08.dws]; omega)⟩
theorem wd_rev (ls : Lsd A H) (g : GW K A N M J H v) (q : ∀ p H', L2.Same H H' → GW K A N M J H' (.ref p) → Q (.ref p) H') : ∃ (a : Addr) (xs : List V), v = .ref a ∧ H a = some (.tup xs) ∧ ∀ p H', L2.Same H H' → H' p = some (.tup xs.reverse) → Q (.ref p) H' := by
  obtain ⟨a, xs, ds, rfl, e, na, dz, o, n, m, j⟩ := g
  obtain ⟨r1, r2, r3⟩ := ncs_rev ds
  exact ⟨a, xs, rfl, e, fun p H' s e' => q p H' s ⟨p, _, ds.reverse, rfl, e', (ls.same s).no e', (dz_rev dz).same (Bt.of s).off, W08.oks_sub o fun d hd => List.mem_reverse.mp hd, by rw [r1]; exact n, by rw [r2]; exact m, by rw [r3]; exact j⟩⟩
theorem wd_cutN {σ : L2.St} {lo : Option Int} (ls : Lsd A H) (g : GW K A N M J H v) (q : ∀ p H', L2.Same H H' → GW K A N M J H' (.ref p) → Q (.ref p) H') : tNoPart σ H fun u H3 => Xtu.rSlU v lo u H3 Q := wd_cut ls g q
theorem wd_list (ls : Lsd A H) (g : GW K A N M J H v) (q : ∀ p H' d, L2.Same H H' → Dz K (offS A H') (.ref p) d → W08.Bd d (N + 1) (M + 4) (J + 1) → Q (.ref p) H') : ∃ p ys, [v] = [V.ref p] ∧ SqT K H p ys ∧ ∀ l, H l = none → l ≠ sysModules → Q (.ref l) (L2.upd H l (.lst ys)) := by
  obtain ⟨a, xs, ds, rfl, e, na, dz, o, n, m, j⟩ := g
  refine ⟨a, xs, rfl, SqT.of e, fun l nl ns => q l _ (.list ds) (same_upd nl) (.lst (offS_at (fun z => ?_) upd_same) ns (dz.same (Bt.of (same_upd nl)).off)) (W08.bd_lst o n m j)⟩
  obtain ⟨ys, ey⟩ := ls l z
  rw [nl] at ey
  cases ey
theorem gd_list {t l : Addr} {xs : List V} (ls : Lsd A H) (g : GW K A N M J H (.ref t)) (e : H t = some (.tup xs)) (nl : H l = none) (ns : l ≠ sysModules) : ∃ d, Dz K (offS A (L2.upd H l (.lst xs))) (.ref l) d ∧ W08.Bd d (N + 1) (M + 4) (J + 1) := by
  obtain ⟨a, ys, ds, ea, e2, na, dz, o, n, m, j⟩ := g
  cases ea
  rw [e] at e2
  cases e2
  refine ⟨.list ds, .lst (offS_at (fun z => ?_) upd_same) ns (dz.same (Bt.of (same_upd nl)).off), W08.bd_lst o n m j⟩
  obtain ⟨zs, ez⟩ := ls l z
  rw [nl] at ez
  cases ez
theorem gd_rev {t p : Addr} {xs : List V} (ls : Lsd A H) (g : GW K A N M J H (.ref t)) (e : H t = some (.tup xs)) (s : L2.Same H H') (ep : H' p = some (.tup xs.reverse)) : GW K A N M J H' (.ref p) := by
  obtain ⟨a, ys, ds, ea, e2, na, dz, o, n, m, j⟩ := g
  cases ea
  rw [e] at e2
  cases e2
  obtain ⟨r1, r2, r3⟩ := ncs_rev ds
  exact ⟨p, _, ds.reverse, rfl, ep, (ls.same s).no ep, (dz_rev dz).same (Bt.of s).off, W08.oks_sub o fun d hd => List.mem_reverse.mp hd, by rw [r1]; exact n, by rw [r2]; exact m, by rw [r3]; exact j⟩
end
theorem offS_mem {A : List Addr} {H : Hp} {b : Addr} (m : b ∈ A) : offS A H b = none := by
  unfold offS
  rw [if_pos m]
theorem offS_le {A : List Addr} {H : Hp} : L2.Same (offS A H) H := fun b x e => by
  by_cases m : b ∈ A
  · rw [offS_mem m] at e; cases e
  · unfold offS at e
    rw [if_neg m] at e
    exact e
theorem split_at {α : Type} (gs : List α) (k : Nat) (h : k < gs.length) : gs = gs.take k ++ gs[k] :: gs.drop (k + 1) := by
  rw [← List.drop_eq_getElem_cons h, List.take_append_drop]
section
variable {X : Cx}
theorem op_neT0 (hu : X.A.units + 64 < cLine) : OpR X (compareOp .NotEq) (fun x y H Q => ∃ a b xs, x = .ref a ∧ y = .ref b ∧ H a = some (.tup xs) ∧ H b = some (.tup []) ∧ Q (.bl (!xs.isEmpty)) H) := by
  intro pins s σ H x y v u Q I rx ry h
  obtain ⟨a, b, xs, rfl, rfl, ea, eb, q⟩ := h
  cases rx; cases ry
  obtain ⟨its, r1, ⟨o1, g1, c1, n1, d1⟩, _⟩ := I.tuple (SqT.of ea)
  obtain ⟨its2, r2, ⟨o2, g2, c2, n2, d2⟩, _⟩ := I.tuple (SqT.of eb)
  cases r2
  have l := r1.length
  have k : (!((List.range (min its.toArray.size ([] : List Value).toArray.size)).all (fun _ => true) && its.toArray.size == ([] : List Value).toArray.size)) = !xs.isEmpty := by
    cases xs with
    | nil =>
      cases r1
      rfl
    | cons z zs =>
      cases r1 with
      | cons _ _ => simp
  have w := PySem.SeqAt.RcNeAt.tuples (A := X.A) (s := s) (l := a) (b := b) (items := its.toArray) (items2 := ([] : List Value).toArray) (e := fun _ => true) ⟨o1, g1, c1, n1, d1⟩ ⟨o2, g2, c2, n2, d2⟩ (Nat.lt_of_le_of_lt (Nat.le_add_right _ 64) hu) (fun j h1 h2 => absurd h2 (by simp))
  rw [k] at w
  exact w X.prog X.w _ _ ⟨.bl _, H, I, rfl, q⟩
end
def spBent (K : PySem.W.Frag) (k : Nat) : Sp := fun vs H Q _ => ∃ (h o : Addr) (c : Int) (v : V) (d : PyData) (n m j : Nat), vs = [.ref h, v, .int (k : Int)] ∧ Dz K (offS [h, o] H) v d ∧ W08.Bd d n m j ∧ n ≤ 200 ∧ m ≤ 15000 ∧ j ≤ 30 ∧ Hd h o c H ∧ c + 20 * (k + 1) ≤ far ∧
  ∀ v' d' H', Dz K (offS [h, o] H') v' d' → W08.Bd d' (2 * n + 10) (2 * m + 300) (j + 3) → Hd h o (c + 10 * (k + 1)) H' → Bt [h, o] H H' → Q v' H'
def spBelow (K : PySem.W.Frag) : Nat → Sp
  | 0 => fun _ _ _ _ => False
  | k + 1 => spBent K k
theorem ok_bt {f : Addr} {fd : FuncData} {k : Nat} (D : Df K mg "_law_bent" ["_law_hand_here", "_law_thing", "_law_deep_here"] sBent f fd) (T : Txt K mg) (cT : Ca P w K mg base 1 "_law_take" ["_law_hand_here", "_law_many"] spTake) (cP : Ca P w K mg base 2 "_law_pick" ["_law_hand_here", "_law_some"] spPick) (cB : Ca P w K mg base (k + 2) "_law_bent" ["_law_hand_here", "_law_thing", "_law_deep_here"] (spBelow K k)) : FnOk P w K mg base CX0 (k + 3) f fd ["_law_hand_here", "_law_thing", "_law_deep_here"] (spBent K k) := by
  refine D.fn.ok scBent (fun vs H Q E h => ?_) (fun cdv A outer s H vs Q E hr h => ?_)
  · obtain ⟨h, o, c, v, d, n, m, j, rfl, dz, bd, n5, m5, j5, hh, hn, q⟩ := h
    rfl
  · obtain ⟨h, o, c, v, d, n, m, j, rfl, dz, bd, n5, m5, j5, hh, hn, q⟩ := h
    refine ⟨_, (pss_cons (ps_set (i := 3) scBent.nd rfl (.inl rfl) (pe_lst (pa_cons pe_str (pa_cons pe_str (pa_cons pe_str (pa_cons pe_str (pa_cons pe_str (pa_cons pe_str (pa_cons pe_str (pa_cons pe_str pa_nil))))))))))
      (pss_cons (ps_set (i := 4) scBent.nd rfl (.inl rfl) (pe_ca cP hr (by omega) (by rfl) (pa_cons (pv 0) (pa_cons (pe_op op_cat (pv 3) (pe_lst (pa_cons pe_non (pa_cons pe_int (pa_cons pe_bl (pa_cons (pe_tup (pa_cons pe_str pa_nil)) pa_nil)))))) pa_nil))))
      (C8.pss_cut (ps_if (PW.pt (pw_and (pt_val (pe_callB call_isi (by rfl) T.isi (by decide +kernel) (pa_cons (pv 1) (pa_cons (pe_bltn (v := .ty "tuple") (by rfl) T.tuple (by decide +kernel) rfl) pa_nil)))) (pw_and (pt_cmpR (op_neT0 hr.units) (pv 1) (pe_tup pa_nil) (nomark _)) (pw_and (pt_cmpR op_gt (pv 2) pe_int (nomark _)) (pw_and1 (pt_cmpR op_gt (pe_ca cT hr (by omega) (by rfl) (pa_cons (pv 0) (pa_cons pe_int pa_nil))) pe_int (nomark _))))))) (pss_cons (ps_set (i := 5) scBent.nd rfl (.inl rfl) (pe_ca cT hr (by omega) (by rfl) (pa_cons (pv 0) (pa_cons (pe_callB call_len_seq (by rfl) T.len PySem.boot_len (pa_cons (pv 1) pa_nil)) pa_nil))))
      (pss_one (ps_ret (pe_op Xtu.op_catU (pe_op Xtu.op_catU (pe_slice Xtu.sl_tupU (pv 1) po_none (po_some (pv 5))) (pe_tup (pa_cons (pe_ca cB hr (by omega) (by rfl) (pa_cons (pv 0) (pa_cons (pe_ix ix_tup (pv 1) (pv 5) (fun _ _ => rfl)) (pa_cons (pe_op op_sub (pv 2) pe_int) pa_nil)))) pa_nil))) (pe_slice Xtu.sl_tupU (pv 1) (po_some (pe_op op_add (pv 5) pe_int)) po_none))))) pss_nil)
      (pss_cons (ps_set (i := 6) scBent.nd rfl (.inl rfl) (pe_ca cT hr (by omega) (by rfl) (pa_cons (pv 0) (pa_cons pe_int pa_nil))))
      (pss_cons (ps_if (PW.pt (pw_or (pt_not (pt_val (pe_callB call_isi (by rfl) T.isi (by decide +kernel) (pa_cons (pv 1) (pa_cons (pe_bltn (v := .ty "tuple") (by rfl) T.tuple (by decide +kernel) rfl) pa_nil))))) (pw_or1 (pt_cmpR op_eq (pv 6) pe_int (nomark _))))) (pss_one (ps_ret (pe_ca cP hr (by omega) (by rfl) (pa_cons (pv 0) (pa_cons (pe_lst (pa_cons (pv 4) (pa_cons (pv 4) (pa_cons (pe_lstZ (pa_cons (pv 4) pa_nil)) (pa_cons (pe_tup (pa_cons (pv 4) pa_nil)) (pa_cons (pe_tup pa_nil) (pa_cons pe_dnewK pa_nil))))))) pa_nil))))) pss_nil)
      (pss_cons (ps_set (i := 5) scBent.nd rfl (.inl rfl) (pe_ca cT hr (by omega) (by rfl) (pa_cons (pv 0) (pa_cons (pe_op op_add (pe_callB call_len_seq (by rfl) T.len PySem.boot_len (pa_cons (pv 1) pa_nil)) pe_int) pa_nil))))
      (pss_cons (ps_set (i := 7) scBent.nd rfl (.inl rfl) (pe_lst (pa_cons (pe_op Xtu.op_catU (pe_op Xtu.op_catU (pe_slice Xtu.sl_tupU (pv 1) po_none (po_some (pv 5))) (pe_tup (pa_cons (pv 4) pa_nil))) (pe_slice Xtu.sl_tupU (pv 1) (po_some (pv 5)) po_none)) (pa_cons (pe_op Xtu.op_catU (pe_slice Xtu.sl_tupU (pv 1) po_none (po_some (pe_callB (call_max2 (by rfl)) (by rfl) T.max (by decide +kernel) (pa_cons pe_int (pa_cons (pe_op op_sub (pv 5) pe_int) pa_nil))))) (pe_slice Xtu.sl_tupU (pv 1) (po_some (pv 5)) po_none)) (pa_cons (pe_callTy cr_listT (by rfl) T.list (by decide +kernel) (pa_cons (pv 1) pa_nil)) (pa_cons (Xtu.pe_revN (pv 1)) pa_nil))))))
      (pss_cons (ps_set (i := 7) scBent.nd rfl (.inl rfl) (pe_op op_cat (pv 7) (pe_lst (pa_cons (pe_op Xtu.op_catU (pe_slice Xtu.sl_tupU (pv 1) po_none (po_some (pv 5))) (pe_slice Xtu.sl_tupU (pv 1) (po_some (pe_callB (call_max2 (by rfl)) (by rfl) T.max (by decide +kernel) (pa_cons pe_int (pa_cons (pe_op op_sub (pv 5) pe_int) pa_nil)))) po_none)) (pa_cons (pe_op Xtu.op_catU (pe_op Xtu.op_catU (pe_slice Xtu.sl_tupU (pv 1) po_none (po_some (pv 5))) (pe_tup (pa_cons (pe_tup (pa_cons pe_str (pa_cons pe_str pa_nil))) pa_nil))) (pe_slice Xtu.sl_tupU (pv 1) (po_some (pv 5)) po_none)) pa_nil)))))
      (pss_one (ps_ret (pe_ix ix_list (pv 7) (pe_op op_sub (pv 6) pe_int) (fun _ _ => rfl)))))))))))), ?_⟩
    have fr : c + 20 * ((k : Int) + 1) ≤ 1000000 := hn
    refine ⟨(by show 8 ≤ sizeLine; decide), fun F nF => ?_⟩
    have sF := same_upd nF (o := .lst [.str "code", .str "title", .str "players", .str "day", .str "length", .str "Code", .str "", .str "house"])
    have eF : (L2.upd H F (.lst [.str "code", .str "title", .str "players", .str "day", .str "length", .str "Code", .str "", .str "house"])) F = some (.lst [.str "code", .str "title", .str "players", .str "day", .str "length", .str "Code", .str "", .str "house"]) := upd_same
    have h0 := hh.same sF
    generalize L2.upd H F (.lst [.str "code", .str "title", .str "players", .str "day", .str "length", .str "Code", .str "", .str "house"]) = H0 at sF eF h0 ⊢
    refine ⟨_, rfl, _, rfl, (by show 1 ≤ sizeLine; decide), fun t1 n1 => ⟨(by show 4 ≤ sizeLine; decide), fun l1 nl1 => ?_⟩⟩
    have s1 := same_upd n1 (o := .tup [.str "code"])
    have s2 := same_upd nl1 (o := .lst [.non, .int 0, .bl true, .ref t1])
    have t1o := h0.fresh n1
    refine ⟨F, l1, _, _, rfl, rfl, s2 _ _ (s1 _ _ eF), upd_same, (by show 8 + 4 ≤ sizeLine; decide), fun l2 nl2 => ?_⟩
    have s3 := same_upd nl2 (o := .lst ([.str "code", .str "title", .str "players", .str "day", .str "length", .str "Code", .str "", .str "house"] ++ [.non, .int 0, .bl true, .ref t1]))
    have s12 := s1.trans s2
    have s123 := s12.trans s3
    refine ⟨h, o, c, _, rfl, h0.same s123, by show c ≤ 1000000; omega, .inl ⟨l2, _, rfl, upd_same, (h0.same s12).fresh nl2, by simp, by show 12 < 1000; decide, fun vo H1 mv h1 b1 => ?_⟩⟩
    have e1 : H1 t1 = some (.tup [.str "code"]) := b1 _ _ t1o (s3 _ _ (s2 _ _ upd_same))
    obtain ⟨d0, z0, bo⟩ : ∃ d0, Dz K (offS [h, o] H1) vo d0 ∧ W08.Bd d0 2 90 1 := by
      have st : ∀ x : Str, (∀ c ∈ x.cps.toList, c < 128) → x.length ≤ 8 → ∃ d0, Dz K (offS [h, o] H1) (.str x) d0 ∧ W08.Bd d0 2 90 1 := fun x hx lx => ⟨_, .str x, (W08.bd_str hx).mono (by decide) (by omega) (by decide)⟩
      simp only [List.mem_append, List.mem_cons, List.not_mem_nil, or_false] at mv
      rcases mv with (e | e | e | e | e | e | e | e) | e | e | e | e
      · rw [e]; exact st _ (by decide +kernel) (by decide +kernel)
      · rw [e]; exact st _ (by decide +kernel) (by decide +kernel)
      · rw [e]; exact st _ (by decide +kernel) (by decide +kernel)
      · rw [e]; exact st _ (by decide +kernel) (by decide +kernel)
      · rw [e]; exact st _ (by decide +kernel) (by decide +kernel)
      · rw [e]; exact st _ (by decide +kernel) (by decide +kernel)
      · rw [e]; exact st _ (by decide +kernel) (by decide +kernel)
      · rw [e]; exact st _ (by decide +kernel) (by decide +kernel)
      · rw [e]; exact ⟨_, .non, W08.bd_none.mono (by decide) (by decide) (by decide)⟩
      · rw [e]; exact ⟨_, .int 0, ⟨.inl rfl, by decide, by decide, by decide⟩⟩
      · rw [e]; exact ⟨_, .bl true, (W08.bd_bool true).mono (by decide) (by decide) (by decide)⟩
      · rw [e]; exact ⟨_, .tup (offS_at t1o e1) (.cons (.str "code") .nil), (W08.bd_tup1 (W08.bd_str (x := "code") (by decide +kernel))).mono (by decide) (by decide +kernel) (by decide)⟩
    have b01 : Bt [h, o] H H1 := (Bt.of (sF.trans s123)).trans b1
    clear mv e1 t1o s1 s2 s3 s12 s123 sF eF b1 h0
    have bd0 := bd
    obtain ⟨ok_, hn_, hs_, hd_⟩ := bd
    refine ⟨fun σ H2 => σ = [some (.ref h), some v, some (.int (k : Int)), some (.ref F), some vo, none, none, none] ∧ Hd h o (c + 2) H2 ∧ Bt [h, o] H1 H2, ?_, ?_⟩
    · have dz1 := dz.same b01.off
      have h1' : Hd h o (c + 2) H1 := h1.mono (by omega)
      refine ⟨_, rfl, _, _, _, _, isTup d, rfl, .ty _, (dz1.same offS_le).ty, z_tup d, _, rfl, ?_⟩
      cases dz1 with
      | @tup t xs ds et' ra =>
        have et : H1 t = some (.tup xs) := offS_le _ _ et'
        have th : t ∉ [h, o] := h1.lsd.no et
        have lx := dz_len ra
        have ncd : W08.nc (.tuple ds) = W08.ncs ds + 1 := rfl
        have swd : W08.sw (.tuple ds) = W08.sws ds + 4 := rfl
        have dwd : W08.dw (.tuple ds) = W08.dws ds + 1 := rfl
        have lxn : xs.length ≤ 500 := by have := W08.len_ncs ds; omega
        refine iteT ⟨_, rfl, (by show 0 ≤ sizeLine; decide), fun z nz => ?_⟩
        have sz := same_upd nz (o := .tup [])
        refine ⟨t, z, xs, rfl, rfl, sz _ _ et, upd_same, _, rfl, ite2 (fun e => ?_) (fun e => ?_)⟩
        rotate_left
        · exact ⟨rfl, h1'.same sz, Bt.of sz⟩
        have xpos : 0 < xs.length := by
          cases xs with
          | nil => cases e
          | cons _ _ => simp
        refine ⟨_, rfl, _, _, rfl, rfl, _, rfl, ite2 (fun e2 => ?_) (fun e2 => ?_)⟩
        rotate_left
        · exact ⟨rfl, h1'.same sz, Bt.of sz⟩
        have kpos : 0 < k := by
          have := of_decide_eq_true e2
          omega
        obtain ⟨k', rfl⟩ : ∃ k', k = k' + 1 := ⟨k - 1, by omega⟩
        refine ⟨_, rfl, h, o, 3, c + 1, rfl, by decide, by decide, h1.same sz, by show c + 1 ≤ 1000000; omega, fun d1 H3 d2 d3 h3 b3 => ⟨_, _, rfl, rfl, _, rfl, ite2 (fun e3 => ?_) (fun e3 => ?_)⟩⟩
        rotate_left
        · exact ⟨rfl, h3.mono (by omega), (Bt.of sz).trans b3⟩
        have b13 : Bt [h, o] H1 H3 := (Bt.of sz).trans b3
        have et3 := b13 _ _ th et
        refine ⟨_, rfl, _, rfl, t, xs, rfl, .inr (SqT.of et3), h, o, (xs.length : Int), c + 1 + 1, rfl, by omega, by omega, h3, by show c + 1 + 1 ≤ 1000000; omega, fun a H4 c0 c1 h4 b4 => ?_⟩
        have et4 := b4 _ _ th et3
        have b14 := b13.trans b4
        refine ⟨_, rfl, _, rfl, a, rfl, t, xs, rfl, et4, fun p1 H5 s5 e5 => ?_⟩
        obtain ⟨i, rfl⟩ : ∃ i : Nat, a = (i : Int) := ⟨a.toNat, by omega⟩
        have hi : i < xs.length := by omega
        have hid : i < ds.length := by omega
        have b15 : Bt [h, o] H1 H5 := b14.trans (Bt.of s5)
        have h5 := h4.same s5
        obtain ⟨ei, eei, dzi⟩ := dz_get ra (List.getElem?_eq_getElem hi)
        have emem := List.mem_of_getElem? eei
        have n1 := W08.ncs_mem emem
        have n2 := W08.sws_mem emem
        have n3 := W08.dws_mem emem
        refine ⟨_, rfl, _, rfl, _, rfl, t, xs, _, xs[i], rfl, rfl, SqT.of (s5 _ _ et4), atI_nat (List.getElem?_eq_getElem hi), _, rfl, _, _, rfl, rfl, ?_⟩
        refine ⟨h, o, c + 1 + 1 + 1, xs[i], ei, W08.nc ei, W08.sw ei, W08.dw ei, by show [V.ref h, xs[i], V.int (((k' + 1 : Nat) : Int) - 1)] = _; rw [show ((k' + 1 : Nat) : Int) - 1 = (k' : Int) by omega], dzi.same b15.off, ⟨W08.oks_iff.mp ok_ ei emem, Nat.le_refl _, Nat.le_refl _, Nat.le_refl _⟩, by omega, by omega, by omega, h5, by show c + 1 + 1 + 1 + 20 * ((k' : Int) + 1) ≤ 1000000; omega, fun v1 d1' H6 z6 w6 h6 b6 => ?_⟩
        have fits : ∀ {ys zs : List V}, ys.length ≤ 1000 → zs.length ≤ 1000 → ys.length + zs.length ≤ sizeLine := fun {ys zs} h1 h2 => Nat.le_trans (show ys.length + zs.length ≤ 2000 by omega) (by decide)
        refine ⟨(by show 1 ≤ sizeLine; decide), fun p2 np2 => ?_⟩
        have p1o := h5.lsd.no e5
        have s7 := same_upd np2 (o := .tup [v1])
        have e5' : H5 p1 = some (.tup (xs.take i)) := e5.trans (congrArg (fun z => some (HO.tup z)) (cutV_take xs i))
        refine ⟨p1, p2, _, _, rfl, rfl, s7 _ _ (b6 _ _ p1o e5'), upd_same, fits (by rw [List.length_take]; omega) (by show 1 ≤ 1000; decide), fun p3 H8 s8 e8 => ?_⟩
        have et8 := s8 _ _ (s7 _ _ (b6 _ _ th (s5 _ _ et4)))
        refine ⟨_, rfl, _, rfl, (i : Int), 1, rfl, rfl, _, rfl, t, xs, rfl, et8, fun p4 H9 s9 e9 => ?_⟩
        have e9' : H9 p4 = some (.tup (xs.drop (i + 1))) := e9.trans (congrArg (fun z => some (HO.tup z)) (cutV_drop xs (i + 1) (by omega)))
        refine ⟨p3, p4, _, _, rfl, rfl, s9 _ _ e8, e9', fits (by rw [List.length_append, List.length_take]; show min i xs.length + 1 ≤ 1000; omega) (by rw [List.length_drop]; omega), fun p5 HA sA' eA => ?_⟩
        have sA := ((s7.trans s8).trans s9).trans sA'
        have hA := h6.same sA
        have b1A : Bt [h, o] H1 HA := b15.trans (b6.trans (Bt.of sA))
        have rA := ra.same b1A.off
        have zA := z6.same (Bt.of (A := [h, o]) sA).off
        have sp := split_at ds i hid
        have ej' : ds[i] = ei := Option.some.inj ((List.getElem?_eq_getElem hid).symm.trans eei)
        rw [ej'] at sp
        have q1 : W08.ncs ds = W08.ncs (ds.take i) + (W08.nc ei + W08.ncs (ds.drop (i + 1))) := by
          conv => lhs; rw [sp]
          rw [W08.ncs_app]; rfl
        have q2 : W08.sws ds = W08.sws (ds.take i) + (W08.sw ei + 2 + W08.sws (ds.drop (i + 1))) := by
          conv => lhs; rw [sp]
          rw [W08.sws_app]; rfl
        have q3 : W08.dws ds = max (W08.dws (ds.take i)) (max (W08.dw ei) (W08.dws (ds.drop (i + 1)))) := by
          conv => lhs; rw [sp]
          rw [W08.dws_app]; rfl
        have w1 := w6.n
        have w2 := w6.s
        have w3 := w6.d
        refine q (.ref p5) (.tuple (ds.take i ++ [d1'] ++ ds.drop (i + 1))) HA (.tup (offS_at (hA.lsd.no eA) eA) (dz_cat (dz_cat (dz_take i rA) (.cons zA .nil)) (dz_drop (i + 1) rA))) ⟨?_, ?_, ?_, ?_⟩ (hA.mono (by omega)) (b01.trans b1A)
        · refine W08.oks_iff.mpr fun y hy => ?_
          rcases List.mem_append.mp hy with z | z
          · rcases List.mem_append.mp z with z | z
            · exact W08.oks_iff.mp ok_ y (List.mem_of_mem_take z)
            · rw [List.mem_singleton.mp z]; exact w6.o
          · exact W08.oks_iff.mp ok_ y (List.mem_of_mem_drop z)
        · show W08.ncs (ds.take i ++ [d1'] ++ ds.drop (i + 1)) + 1 ≤ _
          rw [W08.ncs_app, W08.ncs_app]
          simp only [W08.ncs]
          omega
        · show W08.sws (ds.take i ++ [d1'] ++ ds.drop (i + 1)) + 4 ≤ _
          rw [W08.sws_app, W08.sws_app]
          simp only [W08.sws]
          omega
        · show W08.dws (ds.take i ++ [d1'] ++ ds.drop (i + 1)) + 1 ≤ _
          rw [W08.dws_app, W08.dws_app]
          simp only [W08.dws]
          omega
      | _ => exact iteF ⟨rfl, h1', Bt.refl _ _⟩
    rintro σ H2 ⟨rfl, h2, b2⟩
    refine ⟨_, rfl, h, o, 7, c + 2, rfl, by decide, by decide, h2, by show c + 2 ≤ 1000000; omega, fun wy H3 w0 w1 h3 b3 => ?_⟩
    have b23 := b2.trans b3
    replace z0 := z0.same b23.off
    replace dz := dz.same (b01.trans b23).off
    have bt : Bt [h, o] H H3 := b01.trans b23
    refine ⟨_, rfl, _, _, _, _, isTup d, rfl, .ty _, (dz.same offS_le).ty, z_tup d, _, rfl, ?_⟩
    cases dz with
    | @tup t xs ds et' ra =>
      refine iteF ⟨_, rfl, rfl, _, rfl, ite2 (fun e => ?_) (fun e => ?_)⟩
      · refine ⟨_, rfl, _, rfl, _, rfl, _, rfl, (by show 1 ≤ sizeLine; decide), fun l4 n4 ne4 => ?_⟩
        have s4 := same_upd n4 (o := .lst [vo])
        refine ⟨_, rfl, (by show 1 ≤ sizeLine; decide), fun t5 n5 => ?_⟩
        have s5 := same_upd n5 (o := .tup [vo])
        refine ⟨(by show 0 ≤ sizeLine; decide), fun t6 n6 => ?_⟩
        have s6 := same_upd n6 (o := .tup [])
        intro p7 n7
        have s7 := same_upd n7 (o := .dK [])
        refine ⟨(by show 6 ≤ sizeLine; decide), fun l8 n8 => ?_⟩
        have s8 := same_upd n8 (o := .lst [vo, vo, .ref l4, .ref t5, .ref t6, .ref p7])
        have o4 := h3.fresh n4
        have o5 := (h3.same s4).fresh n5
        have o6 := ((h3.same s4).same s5).fresh n6
        have o7 := (((h3.same s4).same s5).same s6).fresh n7
        have o8 := ((((h3.same s4).same s5).same s6).same s7).fresh n8
        have al := (((s4.trans s5).trans s6).trans s7).trans s8
        refine ⟨h, o, c + 2 + 1, _, rfl, h3.same al, by show c + 2 + 1 ≤ 1000000; omega, .inl ⟨l8, _, rfl, upd_same, o8, by simp, by show 6 < 1000; decide, fun v1 H4 mv h4 b4 => ?_⟩⟩
        have f4 : H4 l4 = some (.lst [vo]) := b4 _ _ o4 (s8 _ _ (s7 _ _ (s6 _ _ (s5 _ _ upd_same))))
        have f5 : H4 t5 = some (.tup [vo]) := b4 _ _ o5 (s8 _ _ (s7 _ _ (s6 _ _ upd_same)))
        have f6 : H4 t6 = some (.tup []) := b4 _ _ o6 (s8 _ _ (s7 _ _ upd_same))
        have f7 : H4 p7 = some (.dK []) := b4 _ _ o7 (s8 _ _ upd_same)
        have b34 : Bt [h, o] H3 H4 := (Bt.of al).trans b4
        have zz := z0.same b34.off
        have hf : Hd h o (c + 10 * ((k : Int) + 1)) H4 := h4.mono (by omega)
        have bf : Bt [h, o] H H4 := bt.trans b34
        have bL := W08.bd_lst1 bo
        have bT := W08.bd_tup1 bo
        simp only [List.mem_cons, List.not_mem_nil, or_false] at mv
        rcases mv with e | e | e | e | e | e
        · rw [e]; exact q _ _ _ zz (bo.mono (by omega) (by omega) (by omega)) hf bf
        · rw [e]; exact q _ _ _ zz (bo.mono (by omega) (by omega) (by omega)) hf bf
        · rw [e]; exact q _ _ _ (.lst (offS_at o4 f4) ne4 (.cons zz .nil)) (bL.mono (by omega) (by omega) (by omega)) hf bf
        · rw [e]; exact q _ _ _ (.tup (offS_at o5 f5) (.cons zz .nil)) (bT.mono (by omega) (by omega) (by omega)) hf bf
        · rw [e]; exact q _ _ _ (.tup (offS_at o6 f6) .nil) ⟨trivial, (by show 0 + 1 ≤ _; omega), (by show 0 + 4 ≤ _; omega), (by show 0 + 1 ≤ _; omega)⟩ hf bf
        · rw [e]; exact q _ _ _ (.dct (offS_at o7 f7) .nil) ⟨trivial, (by show 0 + 1 ≤ _; omega), (by show 0 + 4 ≤ _; omega), (by show 0 + 1 ≤ _; omega)⟩ hf bf
      have et : H3 t = some (.tup xs) := offS_le _ _ et'
      have lx := dz_len ra
      have lxn : xs.length ≤ 500 := by
        have := W08.len_ncs ds
        have ncd : W08.nc (.tuple ds) = W08.ncs ds + 1 := rfl
        omega
      have wy1 : 1 ≤ wy := by
        rcases Int.lt_or_le wy 1 with z | z
        · exact absurd (decide_eq_true (by rw [show wy = 0 by omega])) e
        · exact z
      refine ⟨_, rfl, _, rfl, t, xs, rfl, .inr (SqT.of et), _, _, rfl, rfl, h, o, ((xs.length : Nat) : Int) + 1, c + 2 + 1, rfl, by omega, by omega, h3, by show c + 2 + 1 ≤ 1000000; omega, fun a Jz a0 a1 hd b4 => ?_⟩
      have th : t ∉ [h, o] := h3.lsd.no et
      have g0 : GW K [h, o] (W08.ncs ds) (W08.sws ds) (W08.dws ds) Jz (.ref t) := ⟨t, xs, ds, rfl, b4 _ _ th et, th, ra.same b4.off, ok_, Nat.le_refl _, Nat.le_refl _, Nat.le_refl _⟩
      have et0 := b4 _ _ th et
      have zo := z0.same b4.off
      have ls := hd.lsd
      replace bt := bt.trans b4
      have ncd : W08.nc (.tuple ds) = W08.ncs ds + 1 := rfl
      have swd : W08.sw (.tuple ds) = W08.sws ds + 4 := rfl
      have dwd : W08.dw (.tuple ds) = W08.dws ds + 1 := rfl
      have bD : W08.Bd (.tuple [.str "day", .str "length"]) 3 110 1 := ⟨W08.oks_iff.mpr (fun x hx => by
        simp only [List.mem_cons, List.not_mem_nil, or_false] at hx
        rcases hx with e | e <;> rw [e] <;> exact (by show ∀ c ∈ Array.toList _, c < 128; decide +kernel)), by decide, by decide +kernel, by decide⟩
      refine ⟨_, rfl, _, rfl, a, rfl, wd_cut ls g0 fun p1 J1 s1 k1 => ?_⟩
      replace g0 := g0.same s1
      replace zo := zo.same (Bt.of (A := [h, o]) s1).off
      replace et0 := s1 _ _ et0
      replace hd := hd.same s1
      replace ls := hd.lsd
      replace bt := bt.trans (Bt.of (A := [h, o]) s1)
      refine ⟨_, rfl, (by show 1 ≤ sizeLine; decide), fun p2 n2 => ?_⟩
      have s2 := same_upd n2 (o := .tup [vo])
      have k2 := gw_one ls zo bo n2
      replace g0 := g0.same s2
      replace k1 := k1.same s2
      replace zo := zo.same (Bt.of (A := [h, o]) s2).off
      replace et0 := s2 _ _ et0
      replace hd := hd.same s2
      replace ls := hd.lsd
      replace bt := bt.trans (Bt.of (A := [h, o]) s2)
      generalize L2.upd J1 p2 (.tup [vo]) = J2 at *
      refine wd_cat ls k1 k2 (by omega) fun p3 J3 s3 k3 => ?_
      replace g0 := g0.same s3
      replace zo := zo.same (Bt.of (A := [h, o]) s3).off
      replace et0 := s3 _ _ et0
      replace hd := hd.same s3
      replace ls := hd.lsd
      replace bt := bt.trans (Bt.of (A := [h, o]) s3)
      refine ⟨_, rfl, _, rfl, a, rfl, wd_cutN ls g0 fun p4 J4 s4 k4 => ?_⟩
      replace g0 := g0.same s4
      replace k3 := k3.same s4
      replace zo := zo.same (Bt.of (A := [h, o]) s4).off
      replace et0 := s4 _ _ et0
      replace hd := hd.same s4
      replace ls := hd.lsd
      replace bt := bt.trans (Bt.of (A := [h, o]) s4)
      refine wd_cat ls k3 k4 (by omega) fun p5 J5 s5 k5 => ?_
      replace g0 := g0.same s5
      replace zo := zo.same (Bt.of (A := [h, o]) s5).off
      replace et0 := s5 _ _ et0
      replace hd := hd.same s5
      replace ls := hd.lsd
      replace bt := bt.trans (Bt.of (A := [h, o]) s5)
      refine ⟨_, rfl, _, rfl, _, _, rfl, rfl, _, _, rfl, _, rfl, wd_cut ls g0 fun p6 J6 s6 k6 => ?_⟩
      replace g0 := g0.same s6
      replace k5 := k5.same s6
      replace zo := zo.same (Bt.of (A := [h, o]) s6).off
      replace et0 := s6 _ _ et0
      replace hd := hd.same s6
      replace ls := hd.lsd
      replace bt := bt.trans (Bt.of (A := [h, o]) s6)
      refine ⟨_, rfl, _, rfl, a, rfl, wd_cutN ls g0 fun p7 J7 s7 k7 => ?_⟩
      replace g0 := g0.same s7
      replace k5 := k5.same s7
      replace k6 := k6.same s7
      replace zo := zo.same (Bt.of (A := [h, o]) s7).off
      replace et0 := s7 _ _ et0
      replace hd := hd.same s7
      replace ls := hd.lsd
      replace bt := bt.trans (Bt.of (A := [h, o]) s7)
      refine wd_cat ls k6 k7 (by omega) fun p8 J8 s8 k8 => ?_
      replace g0 := g0.same s8
      replace k5 := k5.same s8
      replace zo := zo.same (Bt.of (A := [h, o]) s8).off
      replace et0 := s8 _ _ et0
      replace hd := hd.same s8
      replace ls := hd.lsd
      replace bt := bt.trans (Bt.of (A := [h, o]) s8)
      refine ⟨_, rfl, t, xs, rfl, SqT.of et0, fun q3 nq nsq => ?_⟩
      have s := same_upd nq (o := .lst xs)
      obtain ⟨d3, z3, b3⟩ := gd_list ls g0 et0 nq nsq
      replace g0 := g0.same s
      replace k5 := k5.same s
      replace k8 := k8.same s
      replace zo := zo.same (Bt.of (A := [h, o]) s).off
      replace et0 := s _ _ et0
      replace hd := hd.same s
      replace ls := hd.lsd
      replace bt := bt.trans (Bt.of (A := [h, o]) s)
      generalize L2.upd J8 q3 (.lst xs) = Jl at *
      refine ⟨_, rfl, t, xs, rfl, et0, fun q4 J0 s0 e0 => ?_⟩
      have x4 := gd_rev ls g0 et0 s0 e0
      replace g0 := g0.same s0
      replace k5 := k5.same s0
      replace k8 := k8.same s0
      replace zo := zo.same (Bt.of (A := [h, o]) s0).off
      replace z3 := z3.same (Bt.of (A := [h, o]) s0).off
      replace et0 := s0 _ _ et0
      replace hd := hd.same s0
      replace ls := hd.lsd
      replace bt := bt.trans (Bt.of (A := [h, o]) s0)
      refine ⟨(by show 4 ≤ sizeLine; decide), fun L1 nL1 => ?_⟩
      have sL := same_upd nL1 (o := .lst [.ref p5, .ref p8, .ref q3, .ref q4])
      have eL1 : (L2.upd J0 L1 (.lst [.ref p5, .ref p8, .ref q3, .ref q4])) L1 = some (.lst [.ref p5, .ref p8, .ref q3, .ref q4]) := upd_same
      have oL1 := hd.fresh nL1
      replace g0 := g0.same sL
      replace k5 := k5.same sL
      replace k8 := k8.same sL
      replace x4 := x4.same sL
      replace zo := zo.same (Bt.of (A := [h, o]) sL).off
      replace z3 := z3.same (Bt.of (A := [h, o]) sL).off
      replace et0 := sL _ _ et0
      replace hd := hd.same sL
      replace ls := hd.lsd
      replace bt := bt.trans (Bt.of (A := [h, o]) sL)
      generalize L2.upd J0 L1 (.lst [.ref p5, .ref p8, .ref q3, .ref q4]) = JA at *
      refine ⟨_, rfl, ?_⟩
      refine ⟨_, rfl, _, rfl, a, rfl, wd_cut ls g0 fun p9 J9 s9 k9 => ?_⟩
      replace g0 := g0.same s9
      replace k5 := k5.same s9
      replace k8 := k8.same s9
      replace x4 := x4.same s9
      replace zo := zo.same (Bt.of (A := [h, o]) s9).off
      replace z3 := z3.same (Bt.of (A := [h, o]) s9).off
      replace et0 := s9 _ _ et0
      replace eL1 := s9 _ _ eL1
      replace hd := hd.same s9
      replace ls := hd.lsd
      replace bt := bt.trans (Bt.of (A := [h, o]) s9)
      refine ⟨_, rfl, _, rfl, _, _, rfl, rfl, _, _, rfl, _, rfl, wd_cutN ls g0 fun p10 J10 s10 k10 => ?_⟩
      replace g0 := g0.same s10
      replace k5 := k5.same s10
      replace k8 := k8.same s10
      replace x4 := x4.same s10
      replace k9 := k9.same s10
      replace zo := zo.same (Bt.of (A := [h, o]) s10).off
      replace z3 := z3.same (Bt.of (A := [h, o]) s10).off
      replace et0 := s10 _ _ et0
      replace eL1 := s10 _ _ eL1
      replace hd := hd.same s10
      replace ls := hd.lsd
      replace bt := bt.trans (Bt.of (A := [h, o]) s10)
      refine wd_cat ls k9 k10 (by omega) fun p11 J11 s11 k11 => ?_
      replace g0 := g0.same s11
      replace k5 := k5.same s11
      replace k8 := k8.same s11
      replace x4 := x4.same s11
      replace zo := zo.same (Bt.of (A := [h, o]) s11).off
      replace z3 := z3.same (Bt.of (A := [h, o]) s11).off
      replace et0 := s11 _ _ et0
      replace eL1 := s11 _ _ eL1
      replace hd := hd.same s11
      replace ls := hd.lsd
      replace bt := bt.trans (Bt.of (A := [h, o]) s11)
      refine ⟨_, rfl, _, rfl, a, rfl, wd_cut ls g0 fun p12 J12 s12 k12 => ?_⟩
      replace g0 := g0.same s12
      replace k5 := k5.same s12
      replace k8 := k8.same s12
      replace x4 := x4.same s12
      replace k11 := k11.same s12
      replace zo := zo.same (Bt.of (A := [h, o]) s12).off
      replace z3 := z3.same (Bt.of (A := [h, o]) s12).off
      replace et0 := s12 _ _ et0
      replace eL1 := s12 _ _ eL1
      replace hd := hd.same s12
      replace ls := hd.lsd
      replace bt := bt.trans (Bt.of (A := [h, o]) s12)
      refine ⟨(by show 2 ≤ sizeLine; decide), fun tD nD => ?_⟩
      have sD := same_upd nD (o := .tup [.str "day", .str "length"])
      have zD : Dz K (offS [h, o] (L2.upd J12 tD (.tup [.str "day", .str "length"]))) (.ref tD) (.tuple [.str "day", .str "length"]) := .tup (offS_at (hd.fresh nD) upd_same) (.cons (.str "day") (.cons (.str "length") .nil))
      replace g0 := g0.same sD
      replace k5 := k5.same sD
      replace k8 := k8.same sD
      replace x4 := x4.same sD
      replace k11 := k11.same sD
      replace k12 := k12.same sD
      replace zo := zo.same (Bt.of (A := [h, o]) sD).off
      replace z3 := z3.same (Bt.of (A := [h, o]) sD).off
      replace et0 := sD _ _ et0
      replace eL1 := sD _ _ eL1
      replace hd := hd.same sD
      replace ls := hd.lsd
      replace bt := bt.trans (Bt.of (A := [h, o]) sD)
      generalize L2.upd J12 tD (.tup [.str "day", .str "length"]) = JD at *
      refine ⟨(by show 1 ≤ sizeLine; decide), fun p13 n13 => ?_⟩
      have s13 := same_upd n13 (o := .tup [.ref tD])
      have k13 := gw_one ls zD bD n13
      replace g0 := g0.same s13
      replace k5 := k5.same s13
      replace k8 := k8.same s13
      replace x4 := x4.same s13
      replace k11 := k11.same s13
      replace k12 := k12.same s13
      replace zo := zo.same (Bt.of (A := [h, o]) s13).off
      replace z3 := z3.same (Bt.of (A := [h, o]) s13).off
      replace zD := zD.same (Bt.of (A := [h, o]) s13).off
      replace et0 := s13 _ _ et0
      replace eL1 := s13 _ _ eL1
      replace hd := hd.same s13
      replace ls := hd.lsd
      replace bt := bt.trans (Bt.of (A := [h, o]) s13)
      generalize L2.upd JD p13 (.tup [.ref tD]) = J13 at *
      refine wd_cat ls k12 k13 (by omega) fun p14 J14 s14 k14 => ?_
      replace g0 := g0.same s14
      replace k5 := k5.same s14
      replace k8 := k8.same s14
      replace x4 := x4.same s14
      replace k11 := k11.same s14
      replace zo := zo.same (Bt.of (A := [h, o]) s14).off
      replace z3 := z3.same (Bt.of (A := [h, o]) s14).off
      replace zD := zD.same (Bt.of (A := [h, o]) s14).off
      replace et0 := s14 _ _ et0
      replace eL1 := s14 _ _ eL1
      replace hd := hd.same s14
      replace ls := hd.lsd
      replace bt := bt.trans (Bt.of (A := [h, o]) s14)
      refine ⟨_, rfl, _, rfl, a, rfl, wd_cutN ls g0 fun p15 J15 s15 k15 => ?_⟩
      replace g0 := g0.same s15
      replace k5 := k5.same s15
      replace k8 := k8.same s15
      replace x4 := x4.same s15
      replace k11 := k11.same s15
      replace k14 := k14.same s15
      replace zo := zo.same (Bt.of (A := [h, o]) s15).off
      replace z3 := z3.same (Bt.of (A := [h, o]) s15).off
      replace zD := zD.same (Bt.of (A := [h, o]) s15).off
      replace et0 := s15 _ _ et0
      replace eL1 := s15 _ _ eL1
      replace hd := hd.same s15
      replace ls := hd.lsd
      replace bt := bt.trans (Bt.of (A := [h, o]) s15)
      refine wd_cat ls k14 k15 (by omega) fun p16 J16 s16 k16 => ?_
      replace g0 := g0.same s16
      replace k5 := k5.same s16
      replace k8 := k8.same s16
      replace x4 := x4.same s16
      replace k11 := k11.same s16
      replace zo := zo.same (Bt.of (A := [h, o]) s16).off
      replace z3 := z3.same (Bt.of (A := [h, o]) s16).off
      replace zD := zD.same (Bt.of (A := [h, o]) s16).off
      replace et0 := s16 _ _ et0
      replace eL1 := s16 _ _ eL1
      replace hd := hd.same s16
      replace ls := hd.lsd
      replace bt := bt.trans (Bt.of (A := [h, o]) s16)
      refine ⟨(by show 2 ≤ sizeLine; decide), fun L2a nL2 => ?_⟩
      have sM := same_upd nL2 (o := .lst [.ref p11, .ref p16])
      have eL2 : (L2.upd J16 L2a (.lst [.ref p11, .ref p16])) L2a = some (.lst [.ref p11, .ref p16]) := upd_same
      replace g0 := g0.same sM
      replace k5 := k5.same sM
      replace k8 := k8.same sM
      replace x4 := x4.same sM
      replace k11 := k11.same sM
      replace k16 := k16.same sM
      replace zo := zo.same (Bt.of (A := [h, o]) sM).off
      replace z3 := z3.same (Bt.of (A := [h, o]) sM).off
      replace zD := zD.same (Bt.of (A := [h, o]) sM).off
      replace et0 := sM _ _ et0
      replace eL1 := sM _ _ eL1
      replace hd := hd.same sM
      replace ls := hd.lsd
      replace bt := bt.trans (Bt.of (A := [h, o]) sM)
      generalize L2.upd J16 L2a (.lst [.ref p11, .ref p16]) = JM at *
      refine ⟨L1, L2a, _, _, rfl, rfl, eL1, eL2, (by show 4 + 2 ≤ sizeLine; decide), fun L3 nL3 => ?_⟩
      have sN := same_upd nL3 (o := .lst ([.ref p5, .ref p8, .ref q3, .ref q4] ++ [.ref p11, .ref p16]))
      have eL3 : (L2.upd JM L3 (.lst ([.ref p5, .ref p8, .ref q3, .ref q4] ++ [.ref p11, .ref p16]))) L3 = some (.lst [.ref p5, .ref p8, .ref q3, .ref q4, .ref p11, .ref p16]) := upd_same
      replace g0 := g0.same sN
      replace k5 := k5.same sN
      replace k8 := k8.same sN
      replace x4 := x4.same sN
      replace k11 := k11.same sN
      replace k16 := k16.same sN
      replace zo := zo.same (Bt.of (A := [h, o]) sN).off
      replace z3 := z3.same (Bt.of (A := [h, o]) sN).off
      replace zD := zD.same (Bt.of (A := [h, o]) sN).off
      replace et0 := sN _ _ et0
      replace eL1 := sN _ _ eL1
      replace hd := hd.same sN
      replace ls := hd.lsd
      replace bt := bt.trans (Bt.of (A := [h, o]) sN)
      generalize L2.upd JM L3 (.lst ([.ref p5, .ref p8, .ref q3, .ref q4] ++ [.ref p11, .ref p16])) = JN at *
      obtain ⟨i, hi⟩ : ∃ i : Nat, wy - 1 = (i : Int) := ⟨(wy - 1).toNat, by omega⟩
      have i6 : i < 6 := by omega
      refine ⟨_, rfl, _, rfl, _, _, rfl, rfl, ?_⟩
      have fin : ∀ (x : Addr) d', Dz K (offS [h, o] JN) (.ref x) d' → W08.Bd d' (2 * n + 10) (2 * m + 300) (j + 3) → Q (.ref x) JN := fun x d' z b => q _ d' _ z b (hd.mono (by omega)) bt
      match i, hi, i6 with
      | 0, hi, _ =>
        obtain ⟨d1, y1, y2⟩ := k5.dz
        exact ⟨L3, _, _, _, rfl, congrArg V.int hi, SqL.of eL3, atI_nat (j := 0) rfl, fin p5 d1 y1 (y2.mono (by omega) (by omega) (by omega))⟩
      | 1, hi, _ =>
        obtain ⟨d1, y1, y2⟩ := k8.dz
        exact ⟨L3, _, _, _, rfl, congrArg V.int hi, SqL.of eL3, atI_nat (j := 1) rfl, fin p8 d1 y1 (y2.mono (by omega) (by omega) (by omega))⟩
      | 2, hi, _ => exact ⟨L3, _, _, _, rfl, congrArg V.int hi, SqL.of eL3, atI_nat (j := 2) rfl, fin q3 _ z3 (b3.mono (by omega) (by omega) (by omega))⟩
      | 3, hi, _ =>
        obtain ⟨d1, y1, y2⟩ := x4.dz
        exact ⟨L3, _, _, _, rfl, congrArg V.int hi, SqL.of eL3, atI_nat (j := 3) rfl, fin q4 d1 y1 (y2.mono (by omega) (by omega) (by omega))⟩
      | 4, hi, _ =>
        obtain ⟨d1, y1, y2⟩ := k11.dz
        exact ⟨L3, _, _, _, rfl, congrArg V.int hi, SqL.of eL3, atI_nat (j := 4) rfl, fin p11 d1 y1 (y2.mono (by omega) (by omega) (by omega))⟩
      | 5, hi, _ =>
        obtain ⟨d1, y1, y2⟩ := k16.dz
        exact ⟨L3, _, _, _, rfl, congrArg V.int hi, SqL.of eL3, atI_nat (j := 5) rfl, fin p16 d1 y1 (y2.mono (by omega) (by omega) (by omega))⟩
    | _ =>
      refine iteT ?_
      refine ⟨_, rfl, _, rfl, _, rfl, _, rfl, (by show 1 ≤ sizeLine; decide), fun l4 n4 ne4 => ?_⟩
      have s4 := same_upd n4 (o := .lst [vo])
      refine ⟨_, rfl, (by show 1 ≤ sizeLine; decide), fun t5 n5 => ?_⟩
      have s5 := same_upd n5 (o := .tup [vo])
      refine ⟨(by show 0 ≤ sizeLine; decide), fun t6 n6 => ?_⟩
      have s6 := same_upd n6 (o := .tup [])
      intro p7 n7
      have s7 := same_upd n7 (o := .dK [])
      refine ⟨(by show 6 ≤ sizeLine; decide), fun l8 n8 => ?_⟩
      have s8 := same_upd n8 (o := .lst [vo, vo, .ref l4, .ref t5, .ref t6, .ref p7])
      have o4 := h3.fresh n4
      have o5 := (h3.same s4).fresh n5
      have o6 := ((h3.same s4).same s5).fresh n6
      have o7 := (((h3.same s4).same s5).same s6).fresh n7
      have o8 := ((((h3.same s4).same s5).same s6).same s7).fresh n8
      have al := (((s4.trans s5).trans s6).trans s7).trans s8
      refine ⟨h, o, c + 2 + 1, _, rfl, h3.same al, by show c + 2 + 1 ≤ 1000000; omega, .inl ⟨l8, _, rfl, upd_same, o8, by simp, by show 6 < 1000; decide, fun v1 H4 mv h4 b4 => ?_⟩⟩
      have f4 : H4 l4 = some (.lst [vo]) := b4 _ _ o4 (s8 _ _ (s7 _ _ (s6 _ _ (s5 _ _ upd_same))))
      have f5 : H4 t5 = some (.tup [vo]) := b4 _ _ o5 (s8 _ _ (s7 _ _ (s6 _ _ upd_same)))
      have f6 : H4 t6 = some (.tup []) := b4 _ _ o6 (s8 _ _ (s7 _ _ upd_same))
      have f7 : H4 p7 = some (.dK []) := b4 _ _ o7 (s8 _ _ upd_same)
      have b34 : Bt [h, o] H3 H4 := (Bt.of al).trans b4
      have zz := z0.same b34.off
      have hf : Hd h o (c + 10 * ((k : Int) + 1)) H4 := h4.mono (by omega)
      have bf : Bt [h, o] H H4 := bt.trans b34
      have bL := W08.bd_lst1 bo
      have bT := W08.bd_tup1 bo
      simp only [List.mem_cons, List.not_mem_nil, or_false] at mv
      rcases mv with e | e | e | e | e | e
      · rw [e]; exact q _ _ _ zz (bo.mono (by omega) (by omega) (by omega)) hf bf
      · rw [e]; exact q _ _ _ zz (bo.mono (by omega) (by omega) (by omega)) hf bf
      · rw [e]; exact q _ _ _ (.lst (offS_at o4 f4) ne4 (.cons zz .nil)) (bL.mono (by omega) (by omega) (by omega)) hf bf
      · rw [e]; exact q _ _ _ (.tup (offS_at o5 f5) (.cons zz .nil)) (bT.mono (by omega) (by omega) (by omega)) hf bf
      · rw [e]; exact q _ _ _ (.tup (offS_at o6 f6) .nil) ⟨trivial, (by show 0 + 1 ≤ _; omega), (by show 0 + 4 ≤ _; omega), (by show 0 + 1 ≤ _; omega)⟩ hf bf
      · rw [e]; exact q _ _ _ (.dct (offS_at o7 f7) .nil) ⟨trivial, (by show 0 + 1 ≤ _; omega), (by show 0 + 4 ≤ _; omega), (by show 0 + 1 ≤ _; omega)⟩ hf bf
end
end K21
set_option Elab.async false
set_option linter.all false
set_option maxRecDepth 100000
set_option maxHeartbeats 4000000
set_option pp.maxSteps 400
set_option pp.deepTerms false
namespace K21
open PySem PySem.Spec PyProof.Rows L2
open Xk Az
section
variable {P : Program} {w : World} {K : PySem.W.Frag} {mg : Str → Option Value} {base : Heap}
theorem fn_no {f : Addr} {fd : FuncData} {k : Nat} (D : Df K mg "_law_bent" ["_law_hand_here", "_law_thing", "_law_deep_here"] sBent f fd) : Ca P w K mg base k "_law_bent" ["_law_hand_here", "_law_thing", "_law_deep_here"] (spBelow K 0) :=
  ⟨f, fd, ⟨fun _ _ _ _ h => h.elim, fun _ _ _ _ _ _ _ _ _ _ _ _ _ h => h.elim⟩, D.mgf, D.fn.kp, D.bd⟩
theorem fn_bent {f : Addr} {fd : FuncData} (D : Df K mg "_law_bent" ["_law_hand_here", "_law_thing", "_law_deep_here"] sBent f fd) (T : Txt K mg) (cT : Ca P w K mg base 1 "_law_take" ["_law_hand_here", "_law_many"] spTake) (cP : Ca P w K mg base 2 "_law_pick" ["_law_hand_here", "_law_some"] spPick) : ∀ k, Ca P w K mg base (k + 2) "_law_bent" ["_law_hand_here", "_law_thing", "_law_deep_here"] (spBelow K k)
  | 0 => fn_no D
  | k + 1 => D.ca (ok_bt D T cT cP (fn_bent D T cT cP k))
def spLaw (K : PySem.W.Frag) : Sp := fun vs H Q _ => ∃ (a : Addr) (ns : List Int), vs = [.ref a] ∧ SqL K H a (ns.map V.int) ∧ ns.length ≤ 63 ∧ ∀ H', Q (.bl true) H'
theorem tks_rD (r : List Str) : tks (rD r) = r.map Sum.inr := by
  show (txs (r.map PyData.str)).map Sum.inr = _
  rw [txs_strs]
theorem inr_inj {a b : List Str} (h : (a.map Sum.inr : List Key) = b.map Sum.inr) : a = b := by
  have e := congrArg (List.map fun k : Key => match k with
    | .inr x => x
    | .inl _ => "") h
  rw [List.map_map, List.map_map] at e
  simpa [Function.comp_def] using e
theorem rules_ok {rs : List (List Str)} (l1 : 1 ≤ rs.length) (l6 : rs.length ≤ 6) (nd : rs.Nodup) (ok : ∀ r ∈ rs, ∃ c, c < 32 ∧ 0 < c ∧ r = rlx c 5) : rulesD (.tuple (rs.map rD)) = true := by
  show (decide (1 ≤ (rs.map rD).length) && decide ((rs.map rD).length ≤ 6) && (rs.map rD).all ruleD && decide ((rs.map rD).map tks).Nodup) = true
  have a1 : (rs.map rD).all ruleD = true := by
    rw [List.all_map]
    refine List.all_eq_true.mpr fun r hr => ?_
    obtain ⟨c, c1, c0, rfl⟩ := ok r hr
    obtain ⟨n, k, _⟩ := rlx_ok c c1 c0
    show ruleD (rD (rlx c 5)) = true
    unfold rD
    rw [rule_keep (all_strs _) (by
      cases e : rlx c 5 with
      | nil => exact absurd e n
      | cons _ _ => rfl), txs_strs]
    exact decide_eq_true k
  have a2 : ((rs.map rD).map tks).Nodup := by
    rw [List.map_map]
    refine List.pairwise_map.mpr (nd.imp fun {a b} ne z => ne ?_)
    have z : tks (rD a) = tks (rD b) := z
    rw [tks_rD, tks_rD] at z
    exact inr_inj z
  rw [a1, decide_eq_true a2, List.length_map, decide_eq_true l1, decide_eq_true l6]
  rfl
theorem flen : ∀ x ∈ fields, x.length ≤ 7 := by decide +kernel
theorem strs_w : ∀ r : List Str, (∀ x ∈ r, x ∈ fields) → W08.oks (r.map PyData.str) ∧ W08.ncs (r.map PyData.str) ≤ r.length ∧ W08.sws (r.map PyData.str) ≤ 74 * r.length ∧ W08.dws (r.map PyData.str) ≤ 0
  | [], _ => ⟨trivial, Nat.le_refl _, Nat.le_refl _, Nat.le_refl _⟩
  | x :: r, h => by
    obtain ⟨a, b, c, d⟩ := strs_w r fun y hy => h y (List.mem_cons_of_mem _ hy)
    have l := flen x (h x List.mem_cons_self)
    refine ⟨⟨fields7 x (h x List.mem_cons_self), a⟩, ?_, ?_, ?_⟩
    · simp only [List.map_cons, W08.ncs, W08.nc, List.length_cons]; omega
    · simp only [List.map_cons, W08.sws, W08.sw, List.length_cons]; omega
    · simp only [List.map_cons, W08.dws, W08.dw]; omega
theorem rules_w : ∀ rs : List (List Str), (∀ r ∈ rs, (∀ x ∈ r, x ∈ fields) ∧ r.length ≤ 5) → W08.oks (rs.map rD) ∧ W08.ncs (rs.map rD) ≤ 6 * rs.length ∧ W08.sws (rs.map rD) ≤ 376 * rs.length ∧ W08.dws (rs.map rD) ≤ 1
  | [], _ => ⟨trivial, Nat.le_refl _, Nat.le_refl _, Nat.zero_le _⟩
  | r :: rs, h => by
    obtain ⟨a, b, c, d⟩ := rules_w rs fun y hy => h y (List.mem_cons_of_mem _ hy)
    obtain ⟨h1, h2⟩ := h r List.mem_cons_self
    obtain ⟨a', b', c', d'⟩ := strs_w r h1
    refine ⟨⟨a', a⟩, ?_, ?_, ?_⟩
    · simp only [List.map_cons, W08.ncs, rD, W08.nc, List.length_cons]; omega
    · simp only [List.map_cons, W08.sws, rD, W08.sw, List.length_cons]; omega
    · simp only [List.map_cons, W08.dws, rD, W08.dw]; omega
def six : List (List Str) := [["code"], ["title"], ["players"], ["day"], ["length"], ["code", "title"]]
theorem six_ok : rulesD (.tuple (six.map rD)) = true := by decide +kernel
theorem seven_no : rulesD (.tuple ((six ++ [(["day", "length"] : List Str)]).map rD)) = false := by decide +kernel
theorem ok_law {f : Addr} {fd : FuncData} (D : Df K mg "law" ["_law_script"] sLaw f fd) (T : Txt K mg) (cT : Ca P w K mg base 1 "_law_take" ["_law_hand_here", "_law_many"] spTake) (cAr : Ca P w K mg base 3 "are_rules" ["thing"] (spAr K)) (cLa : Ca P w K mg base 2 "_law_are_rules" ["_law_thing"] (spLar K)) (cH : Ca P w K mg base 1 "_law_hand" ["_law_script"] (spHand K)) (cRl : Ca P w K mg base 3 "_law_rules" ["_law_hand_here"] (spRl K)) (cBt : Ca P w K mg base 5 "_law_bent" ["_law_hand_here", "_law_thing", "_law_deep_here"] (spBent K 2)) (cDp : Ca P w K mg base 3 "_law_deep" ["_law_hand_here"] (spDeep K)) : Gn P w K mg base 6 f fd ["_law_script"] (spLaw K) := by
  refine gn_body D.fn scLaw (fun vs H Q E h => ?_) (fun cdv A outer s H vs Q E hg hr h => ?_)
  · obtain ⟨a, ns, rfl, hS, hlen, q⟩ := h
    rfl
  · obtain ⟨a, ns, rfl, hS, hlen, q⟩ := h
    refine ⟨_, (pss_cons (ps_set (i := 1) scLaw.nd rfl (.inl rfl) (pe_ca cH hr (by decide) (by rfl) (pa_cons (pv 0) pa_nil)))
      (pss_cons (ps_for PassesOwn.never rfl (pi_range1 (by rfl) T.range (pa_cons (pe_op op_add pe_int (pe_callB (call_min2 (by rfl)) (by rfl) T.min (by decide +kernel) (pa_cons pe_int (pa_cons (pe_callB call_len_seq (by rfl) T.len PySem.boot_len (pa_cons (pv 0) pa_nil)) pa_nil)))) pa_nil)) (pg_name (i := 2) scLaw.nd rfl (.inl rfl)) (pss_cons (ps_set (i := 3) scLaw.nd rfl (.inl rfl) (pe_ca cRl hr (by decide) (by rfl) (pa_cons (pv 1) pa_nil)))
      (pss_cons (ps_if (pt_cmpR op_notBl (pe_ca cAr hr (by decide) (by rfl) (pa_cons (pv 3) pa_nil)) pe_bl (nomark _)) (pss_one (ps_ret pe_bl)) pss_nil)
      (pss_one (ps_for PassesOwn.never rfl (pi_range1 (by rfl) T.range (pa_cons pe_int pa_nil)) (pg_name (i := 4) scLaw.nd rfl (.inl rfl)) (pss_cons (ps_set (i := 5) scLaw.nd rfl (.inl rfl) (pe_ca cBt hr (by decide) (by rfl) (pa_cons (pv 1) (pa_cons (pv 3) (pa_cons pe_int pa_nil)))))
      (C8.pss_cut (ps_set (i := 5) scLaw.nd rfl (.inl rfl) (pe_ifExp (pt_cmpR op_eq (pe_ca cT hr (by decide) (by rfl) (pa_cons (pv 1) (pa_cons pe_int pa_nil))) pe_int (nomark _)) (pe_ca cBt hr (by decide) (by rfl) (pa_cons (pv 1) (pa_cons (pv 5) (pa_cons pe_int pa_nil)))) (pv 5)))
      (pss_cons (ps_par (i := 6) (j := 7) (by rfl) scLaw.nd rfl rfl (by decide) rfl rfl (pa_cons (pe_callB (cr_reprZ hg hr) (by rfl) T.repr (by decide +kernel) (pa_cons (pv 5) pa_nil)) (pa_cons (pe_ca cAr hr (by decide) (by rfl) (pa_cons (pv 5) pa_nil)) pa_nil)) (by rfl))
      (pss_one (ps_if (PW.pt (pw_or (pt_not (pt_val (pe_callB call_isi (by rfl) T.isi (by decide +kernel) (pa_cons (pv 7) (pa_cons (pe_bltn (v := .ty "bool") (by rfl) T.bool (by decide +kernel) rfl) pa_nil))))) (pw_or (pt_cmpR op_ne (pv 7) (pe_ca cLa hr (by decide) (by rfl) (pa_cons (pv 5) pa_nil)) (nomark _)) (pw_or1 (pt_cmpR op_ne (pe_callB (cr_reprZ hg hr) (by rfl) T.repr (by decide +kernel) (pa_cons (pv 5) pa_nil)) (pv 6) (nomark _)))))) (pss_one (ps_ret pe_bl)) pss_nil))))))))))
      (pss_cons (ps_for PassesOwn.never rfl (pi_list (pe_lst (pa_cons (pe_ca cDp hr (by decide) (by rfl) (pa_cons (pv 1) pa_nil)) (pa_cons (pe_ca cDp hr (by decide) (by rfl) (pa_cons (pv 1) pa_nil)) (pa_cons pe_non (pa_cons pe_int (pa_cons pe_bl (pa_cons pe_str (pa_cons (pe_tup (pa_cons pe_str pa_nil)) (pa_cons (pe_tup pa_nil) (pa_cons (pe_tup (pa_cons (pe_tup pa_nil) pa_nil)) (pa_cons (pe_lstZ (pa_cons (pe_tup (pa_cons pe_str pa_nil)) pa_nil)) (pa_cons pe_dnewK pa_nil))))))))))))) (pg_name (i := 5) scLaw.nd rfl (.inl rfl)) (pss_one (ps_if (pt_cmpR op_ne (pe_callB (cr_reprZ hg hr) (by rfl) T.repr (by decide +kernel) (pa_cons (pe_ca cAr hr (by decide) (by rfl) (pa_cons (pv 5) pa_nil)) pa_nil)) (pe_callB (cr_reprZ hg hr) (by rfl) T.repr (by decide +kernel) (pa_cons (pe_ca cLa hr (by decide) (by rfl) (pa_cons (pv 5) pa_nil)) pa_nil)) (nomark _)) (pss_one (ps_ret pe_bl)) pss_nil)))
      (pss_cons (ps_set (i := 8) scLaw.nd rfl (.inl rfl) (pe_tup (pa_cons (pe_tup (pa_cons pe_str pa_nil)) (pa_cons (pe_tup (pa_cons pe_str pa_nil)) (pa_cons (pe_tup (pa_cons pe_str pa_nil)) (pa_cons (pe_tup (pa_cons pe_str pa_nil)) (pa_cons (pe_tup (pa_cons pe_str pa_nil)) (pa_cons (pe_tup (pa_cons pe_str (pa_cons pe_str pa_nil))) pa_nil))))))))
      (pss_one (ps_ret (pe_and (pe_cmpR op_isBl (pe_ca cAr hr (by decide) (by rfl) (pa_cons (pv 8) pa_nil)) pe_bl (nomark _)) (pe_one (pe_cmpR op_isBl (pe_ca cAr hr (by decide) (by rfl) (pa_cons (pe_op Xtu.op_catU (pv 8) (pe_tup (pa_cons (pe_tup (pa_cons pe_str (pa_cons pe_str pa_nil))) pa_nil))) pa_nil)) pe_bl (nomark _)))))))))), ?_⟩
    refine ⟨_, rfl, a, ns, rfl, hS, hlen, fun h o H1 hd s1 nh no => ?_⟩
    refine ⟨_, rfl, a, _, rfl, .inl (s1.seq hS), 12, _, rfl, 12, _, rfl, rfl, ?_⟩
    obtain ⟨m, em, m0, m2⟩ : ∃ m : Int, (if ((ns.map V.int).length : Int) < 12 then ((ns.map V.int).length : Int) else 12) = m ∧ 0 ≤ m ∧ m ≤ 12 := ⟨_, rfl, by split <;> omega, by split <;> omega⟩
    rw [em]
    clear em
    refine ⟨_, rfl, by omega, by omega, for_range (lo := 0) (n := (12 + m).toNat) (fun k σ Hi => ∃ c2 c3 c4 c5 c6 c7 c8 : Option V, σ = [some (.ref a), some (.ref h), c2, c3, c4, c5, c6, c7, c8] ∧ Hd h o (600 * k) Hi) ?_ ?_ ?_⟩
    · exact ⟨_, _, _, _, _, _, _, rfl, hd.mono (by omega)⟩
    · rintro k σ Hi hk ⟨c2, c3, c4, c5, c6, c7, c8, rfl, hdi⟩
      have k24 : k < 24 := by omega
      refine ⟨_, rfl, h, o, 600 * k, rfl, hdi, by show 600 * (k : Int) + 100 ≤ 1000000; omega, fun t vs rs H2 et rl l1 l6 nd ok h2 b2 => ?_⟩
      have inF : ∀ r ∈ rs, (∀ x ∈ r, x ∈ fields) ∧ r.length ≤ 5 := fun r hr => by
        obtain ⟨c, c1, c0, rfl⟩ := ok r hr
        exact ⟨rlx_in c 5 (Nat.le_refl _), (rlx_ok c c1 c0).2.2⟩
      obtain ⟨w1, w2, w3, w4⟩ := rules_w rs inF
      have rok := rules_ok l1 l6 nd ok
      have ot : t ∉ [h, o] := h2.ntup et
      have dr : Dz K (offS [h, o] H2) (.ref t) (.tuple (rs.map rD)) := .tup (offS_at ot et) (RL.dz (rl.tp fun t ys e => offS_at (h2.ntup e) e))
      have bd : W08.Bd (.tuple (rs.map rD)) 40 2400 2 := (W08.bd_tup w1 w2 w3 w4).mono (by omega) (by omega) (by omega)
      generalize PyData.tuple (rs.map rD) = d at rok dr bd
      clear rl et ot nd ok inF w1 w2 w3 w4 l1 l6
      have ncd := bd.n
      refine ⟨_, rfl, .ref t, d, rfl, dr.same offS_le, by omega, fun H3 s3 => ?_⟩
      rw [rok]
      refine ⟨true, true, rfl, rfl, _, rfl, iteF ?_⟩
      have h3 := h2.same s3
      have dr3 := dr.same (Bt.of (A := [h, o]) s3).off
      clear dr
      refine ⟨6, rfl, by decide, by decide, for_range (lo := 0) (n := (6 : Int).toNat) (fun i σ Hj => ∃ c4 c5 c6 c7 c8 : Option V, σ = [some (.ref a), some (.ref h), some (.int (0 + (k : Int))), some (.ref t), c4, c5, c6, c7, c8] ∧ Hd h o (600 * k + 40 + 80 * i) Hj ∧ Dz K (offS [h, o] Hj) (.ref t) d) ?_ ?_ ?_⟩
      · exact ⟨_, _, _, _, _, rfl, h3.mono (by omega), dr3⟩
      · rintro i σ Hj hi ⟨c4, c5, c6, c7, c8, rfl, hj, drj⟩
        have i6 : i < 6 := hi
        obtain ⟨C0, eC⟩ : ∃ C0 : Int, C0 = 600 * (k : Int) + 40 + 80 * (i : Int) := ⟨_, rfl⟩
        rw [← eC] at hj
        have C1 : C0 ≤ 100000 := by omega
        refine ⟨_, rfl, _, rfl, h, o, C0, .ref t, d, 40, 2400, 2, rfl, drj, bd, by decide, by decide, by decide, hj, by show C0 + 20 * (((2 : Nat) : Int) + 1) ≤ 1000000; omega, fun v1 d1 Ha z1 y1 ha ba => ?_⟩
        have dra := drj.same ba.off
        refine ⟨fun σ Hx => ∃ (v2 : V) (d2 : PyData), σ = [some (.ref a), some (.ref h), some (.int (0 + (k : Int))), some (.ref t), some (.int (0 + (i : Int))), some v2, c6, c7, c8] ∧ Dz K (offS [h, o] Hx) v2 d2 ∧ W08.Bd d2 190 10500 8 ∧ Hd h o (C0 + 70) Hx ∧ Dz K (offS [h, o] Hx) (.ref t) d, ?_, ?_⟩
        · refine ⟨_, rfl, h, o, 3, C0 + 10 * (((2 : Nat) : Int) + 1), rfl, by decide, by decide, ha, by show C0 + 10 * (((2 : Nat) : Int) + 1) ≤ 1000000; omega, fun w Hb x0 x1 hb bb => ⟨rfl, _, rfl, ite2 (fun e => ?_) (fun e => ?_)⟩⟩
          · refine ⟨_, rfl, _, rfl, h, o, C0 + 10 * (((2 : Nat) : Int) + 1) + 1, v1, d1, 90, 5100, 5, rfl, z1.same bb.off, y1.mono (by decide) (by decide) (by decide), by decide, by decide, by decide, hb, by show C0 + 10 * (((2 : Nat) : Int) + 1) + 1 + 20 * (((2 : Nat) : Int) + 1) ≤ 1000000; omega, fun v2 d2 Hc z2 y2 hc bc => ?_⟩
            exact ⟨v2, d2, rfl, z2, y2.mono (by decide) (by decide) (by decide), hc.mono (by omega), (dra.same bb.off).same bc.off⟩
          · exact ⟨_, rfl, v1, d1, rfl, z1.same bb.off, y1.mono (by decide) (by decide) (by decide), hb.mono (by omega), dra.same bb.off⟩
        rintro σ Hx ⟨v2, d2, rfl, z2, y2, hx, drx⟩
        have nc := y2.nice
        have dz : Dz K Hx v2 d2 := z2.same offS_le
        have n2 := y2.n
        have as2 : As d2 := as_of d2 y2.o
        have fit : d2.shown.length ≤ sizeLine := Nat.le_trans nc.sz (by decide)
        have dp : d2.depth ≤ 60 := Nat.le_trans nc.dp (by decide)
        refine ⟨_, rfl, v2, d2, rfl, dz, nc.sh, dp, fit, ?_⟩
        refine ⟨_, rfl, v2, d2, rfl, dz, by omega, fun H6 s6 => ⟨_, _, rfl, ?_⟩⟩
        have tb : TyX K H6 (.bl (rulesD d2)) (.type "bool") := (Dz.bl (rulesD d2)).ty
        refine ⟨_, rfl, _, _, _, _, true, rfl, .ty _, tb, kit_ty (by decide +kernel), ?_⟩
        have ne1 : (!decide (V.bl (rulesD d2) = V.bl (rulesD d2))) = false := by simp
        have ne2 : (!decide (V.str d2.shown = V.str d2.shown)) = false := by simp
        have dz6 := dz.same s6
        refine ⟨true, rfl, iteF ⟨_, rfl, _, rfl, v2, d2, rfl, dz6, as2, by omega, fun H7 s7 => ⟨rfl, _, rfl, ?_⟩⟩⟩
        rw [ne1]
        refine iteF ⟨_, rfl, v2, d2, rfl, dz6.same s7, nc.sh, dp, fit, _, rfl, rfl, _, rfl, ?_⟩
        rw [ne2]
        have s67 := s6.trans s7
        exact iteF ⟨_, _, _, _, _, rfl, (hx.same s67).mono (by omega), drx.same (Bt.of (A := [h, o]) s67).off⟩
      · rintro σ He ⟨c4, c5, c6, c7, c8, rfl, hde, _⟩
        exact ⟨_, _, _, _, _, _, _, rfl, hde.mono (by show 600 * (k : Int) + 40 + 80 * ((6 : Nat) : Int) ≤ _; omega)⟩
    rintro σ He ⟨c2, c3, c4, c5, c6, c7, c8, rfl, hde⟩
    obtain ⟨N0, eN⟩ : ∃ N0 : Int, N0 = 600 * (((12 + m).toNat : Nat) : Int) := ⟨_, rfl⟩
    rw [← eN] at hde
    have N1 : N0 ≤ 20000 := by omega
    refine ⟨_, rfl, h, o, N0, rfl, hde, by show N0 + 100 ≤ 1000000; omega, fun v1 d1 Ha z1 a1 n1 ha ba => ?_⟩
    refine ⟨_, rfl, h, o, N0 + 60, rfl, ha, by show N0 + 60 + 100 ≤ 1000000; omega, fun v2 d2 G0 z2 a2 n2 hg bb => ?_⟩
    replace z1 : Dz K G0 v1 d1 := (z1.same bb.off).same offS_le
    replace z2 : Dz K G0 v2 d2 := z2.same offS_le
    refine ⟨(by show 1 ≤ sizeLine; decide), fun t1 m1 => ?_⟩
    have s1 := same_upd m1 (o := .tup [.str "code"])
    have et1 : (L2.upd G0 t1 (.tup [.str "code"])) t1 = some (.tup [.str "code"]) := upd_same
    replace z1 := z1.same s1
    replace z2 := z2.same s1
    generalize L2.upd G0 t1 (.tup [.str "code"]) = G1 at *
    refine ⟨(by show 0 ≤ sizeLine; decide), fun t2 m2 => ?_⟩
    have s2 := same_upd m2 (o := .tup [])
    have et2 : (L2.upd G1 t2 (.tup [])) t2 = some (.tup []) := upd_same
    replace z1 := z1.same s2
    replace z2 := z2.same s2
    replace et1 := s2 _ _ et1
    generalize L2.upd G1 t2 (.tup []) = G2 at *
    refine ⟨(by show 0 ≤ sizeLine; decide), fun t3 m3 => ?_⟩
    have s3 := same_upd m3 (o := .tup [])
    have et3 : (L2.upd G2 t3 (.tup [])) t3 = some (.tup []) := upd_same
    replace z1 := z1.same s3
    replace z2 := z2.same s3
    replace et1 := s3 _ _ et1
    replace et2 := s3 _ _ et2
    generalize L2.upd G2 t3 (.tup []) = G3 at *
    refine ⟨(by show 1 ≤ sizeLine; decide), fun t4 m4 => ?_⟩
    have s4 := same_upd m4 (o := .tup [.ref t3])
    have et4 : (L2.upd G3 t4 (.tup [.ref t3])) t4 = some (.tup [.ref t3]) := upd_same
    replace z1 := z1.same s4
    replace z2 := z2.same s4
    replace et1 := s4 _ _ et1
    replace et2 := s4 _ _ et2
    replace et3 := s4 _ _ et3
    generalize L2.upd G3 t4 (.tup [.ref t3]) = G4 at *
    refine ⟨(by show 1 ≤ sizeLine; decide), fun t5 m5 => ?_⟩
    have s5 := same_upd m5 (o := .tup [.str "code"])
    have et5 : (L2.upd G4 t5 (.tup [.str "code"])) t5 = some (.tup [.str "code"]) := upd_same
    replace z1 := z1.same s5
    replace z2 := z2.same s5
    replace et1 := s5 _ _ et1
    replace et2 := s5 _ _ et2
    replace et3 := s5 _ _ et3
    replace et4 := s5 _ _ et4
    generalize L2.upd G4 t5 (.tup [.str "code"]) = G5 at *
    refine ⟨(by show 1 ≤ sizeLine; decide), fun l6 m6 ne6 => ?_⟩
    have s6 := same_upd m6 (o := .lst [.ref t5])
    have el6 : (L2.upd G5 l6 (.lst [.ref t5])) l6 = some (.lst [.ref t5]) := upd_same
    replace z1 := z1.same s6
    replace z2 := z2.same s6
    replace et1 := s6 _ _ et1
    replace et2 := s6 _ _ et2
    replace et3 := s6 _ _ et3
    replace et4 := s6 _ _ et4
    replace et5 := s6 _ _ et5
    generalize L2.upd G5 l6 (.lst [.ref t5]) = G6 at *
    intro p7 m7
    have s7 := same_upd m7 (o := .dK [])
    have ep7 : (L2.upd G6 p7 (.dK [])) p7 = some (.dK []) := upd_same
    replace z1 := z1.same s7
    replace z2 := z2.same s7
    replace et1 := s7 _ _ et1
    replace et2 := s7 _ _ et2
    replace et3 := s7 _ _ et3
    replace et4 := s7 _ _ et4
    replace et5 := s7 _ _ et5
    replace el6 := s7 _ _ el6
    generalize L2.upd G6 p7 (.dK []) = G7 at *
    refine ⟨(by show 11 ≤ sizeLine; decide), fun L8 m8 => ?_⟩
    have s8 := same_upd m8 (o := .lst [v1, v2, .non, .int 0, .bl true, .str "code", .ref t1, .ref t2, .ref t4, .ref l6, .ref p7])
    have eL8 : (L2.upd G7 L8 (.lst [v1, v2, .non, .int 0, .bl true, .str "code", .ref t1, .ref t2, .ref t4, .ref l6, .ref p7])) L8 = some (.lst [v1, v2, .non, .int 0, .bl true, .str "code", .ref t1, .ref t2, .ref t4, .ref l6, .ref p7]) := upd_same
    replace z1 := z1.same s8
    replace z2 := z2.same s8
    replace et1 := s8 _ _ et1
    replace et2 := s8 _ _ et2
    replace et3 := s8 _ _ et3
    replace et4 := s8 _ _ et4
    replace et5 := s8 _ _ et5
    replace el6 := s8 _ _ el6
    replace ep7 := s8 _ _ ep7
    generalize L2.upd G7 L8 (.lst [v1, v2, .non, .int 0, .bl true, .str "code", .ref t1, .ref t2, .ref t4, .ref l6, .ref p7]) = G8 at *
    refine ⟨L8, rfl, ⟨_, SqL.of eL8⟩, ?_⟩
    have ac : ∀ c ∈ ("code" : Str).cps.toList, c < 128 := by decide +kernel
    have every : ∀ v ∈ ([v1, v2, .non, .int 0, .bl true, .str "code", .ref t1, .ref t2, .ref t4, .ref l6, .ref p7] : List V), ∃ d, Dz K G8 v d ∧ As d ∧ W08.nc d ≤ 100 := fun v hv => by
      simp only [List.mem_cons, List.not_mem_nil, or_false] at hv
      rcases hv with e | e | e | e | e | e | e | e | e | e | e
      · subst e; exact ⟨_, z1, a1, n1⟩
      · subst e; exact ⟨_, z2, a2, n2⟩
      · subst e; exact ⟨_, .non, trivial, by decide⟩
      · subst e; exact ⟨_, .int 0, trivial, by decide⟩
      · subst e; exact ⟨_, .bl true, trivial, by decide⟩
      · subst e; exact ⟨_, .str "code", ac, by decide⟩
      · subst e; exact ⟨_, .tup et1 (.cons (.str "code") .nil), ⟨ac, trivial⟩, by decide⟩
      · subst e; exact ⟨_, .tup et2 .nil, trivial, by decide⟩
      · subst e; exact ⟨_, .tup et4 (.cons (.tup et3 .nil) .nil), ⟨trivial, trivial⟩, by decide⟩
      · subst e; exact ⟨_, .lst el6 ne6 (.cons (.tup et5 (.cons (.str "code") .nil)) .nil), trivial, by decide⟩
      · subst e; exact ⟨_, .dct ep7 .nil, trivial, by decide⟩
    refine for_list (K := K) (a := L8) (xs := [v1, v2, .non, .int 0, .bl true, .str "code", .ref t1, .ref t2, .ref t4, .ref l6, .ref p7]) (fun j σ Hm => ∃ c2 c3 c4 c5 c6 c7 c8 : Option V, σ = [some (.ref a), some (.ref h), c2, c3, c4, c5, c6, c7, c8] ∧ L2.Same G8 Hm) ?_ ?_ ?_ ?_
    · exact ⟨_, _, _, _, _, _, _, rfl, Same.refl G8⟩
    · rintro j σ Hm _ ⟨_, _, _, _, _, _, _, _, e⟩
      exact SqL.of (e _ _ eL8)
    · rintro j v σ Hm hv ⟨c2, c3, c4, c5, c6, c7, c8, rfl, sm⟩
      obtain ⟨d, dz', as, nn⟩ := every v (List.mem_of_getElem? hv)
      have dz : Dz K Hm v d := dz'.same sm
      have nb : Nice (.bool (rulesD d)) 0 5 := nice_bool _
      have fit : (PyData.bool (rulesD d)).shown.length ≤ sizeLine := Nat.le_trans nb.sz (by decide)
      have dp : (PyData.bool (rulesD d)).depth ≤ 60 := Nat.le_trans nb.dp (by decide)
      have ne2 : (!decide (V.str (PyData.bool (rulesD d)).shown = V.str (PyData.bool (rulesD d)).shown)) = false := by simp
      refine ⟨_, rfl, v, d, rfl, dz, by omega, fun Hb sb => ⟨_, .bool (rulesD d), rfl, .bl _, nb.sh, dp, fit, _, rfl, v, d, rfl, dz.same sb, as, by omega, fun Hc sc => ⟨_, .bool (rulesD d), rfl, .bl _, nb.sh, dp, fit, rfl, _, rfl, ?_⟩⟩⟩
      rw [ne2]
      exact iteF ⟨_, _, _, _, _, _, _, rfl, (sm.trans sb).trans sc⟩
    rintro σ F0 ⟨c2, c3, c4, c5, c6, c7, c8, rfl, sm⟩
    clear every
    refine ⟨(by show 1 ≤ sizeLine; decide), fun x1 m21 => ?_⟩
    have s21 := same_upd m21 (o := .tup [.str "code"])
    have ex1 : (L2.upd F0 x1 (.tup [.str "code"])) x1 = some (.tup [.str "code"]) := upd_same
    generalize L2.upd F0 x1 (.tup [.str "code"]) = G21 at *
    refine ⟨(by show 1 ≤ sizeLine; decide), fun x2 m22 => ?_⟩
    have s22 := same_upd m22 (o := .tup [.str "title"])
    have ex2 : (L2.upd G21 x2 (.tup [.str "title"])) x2 = some (.tup [.str "title"]) := upd_same
    replace ex1 := s22 _ _ ex1
    generalize L2.upd G21 x2 (.tup [.str "title"]) = G22 at *
    refine ⟨(by show 1 ≤ sizeLine; decide), fun x3 m23 => ?_⟩
    have s23 := same_upd m23 (o := .tup [.str "players"])
    have ex3 : (L2.upd G22 x3 (.tup [.str "players"])) x3 = some (.tup [.str "players"]) := upd_same
    replace ex1 := s23 _ _ ex1
    replace ex2 := s23 _ _ ex2
    generalize L2.upd G22 x3 (.tup [.str "players"]) = G23 at *
    refine ⟨(by show 1 ≤ sizeLine; decide), fun x4 m24 => ?_⟩
    have s24 := same_upd m24 (o := .tup [.str "day"])
    have ex4 : (L2.upd G23 x4 (.tup [.str "day"])) x4 = some (.tup [.str "day"]) := upd_same
    replace ex1 := s24 _ _ ex1
    replace ex2 := s24 _ _ ex2
    replace ex3 := s24 _ _ ex3
    generalize L2.upd G23 x4 (.tup [.str "day"]) = G24 at *
    refine ⟨(by show 1 ≤ sizeLine; decide), fun x5 m25 => ?_⟩
    have s25 := same_upd m25 (o := .tup [.str "length"])
    have ex5 : (L2.upd G24 x5 (.tup [.str "length"])) x5 = some (.tup [.str "length"]) := upd_same
    replace ex1 := s25 _ _ ex1
    replace ex2 := s25 _ _ ex2
    replace ex3 := s25 _ _ ex3
    replace ex4 := s25 _ _ ex4
    generalize L2.upd G24 x5 (.tup [.str "length"]) = G25 at *
    refine ⟨(by show 2 ≤ sizeLine; decide), fun x6 m26 => ?_⟩
    have s26 := same_upd m26 (o := .tup [.str "code", .str "title"])
    have ex6 : (L2.upd G25 x6 (.tup [.str "code", .str "title"])) x6 = some (.tup [.str "code", .str "title"]) := upd_same
    replace ex1 := s26 _ _ ex1
    replace ex2 := s26 _ _ ex2
    replace ex3 := s26 _ _ ex3
    replace ex4 := s26 _ _ ex4
    replace ex5 := s26 _ _ ex5
    generalize L2.upd G25 x6 (.tup [.str "code", .str "title"]) = G26 at *
    refine ⟨(by show 6 ≤ sizeLine; decide), fun x7 m27 => ?_⟩
    have s27 := same_upd m27 (o := .tup [.ref x1, .ref x2, .ref x3, .ref x4, .ref x5, .ref x6])
    have ex7 : (L2.upd G26 x7 (.tup [.ref x1, .ref x2, .ref x3, .ref x4, .ref x5, .ref x6])) x7 = some (.tup [.ref x1, .ref x2, .ref x3, .ref x4, .ref x5, .ref x6]) := upd_same
    replace ex1 := s27 _ _ ex1
    replace ex2 := s27 _ _ ex2
    replace ex3 := s27 _ _ ex3
    replace ex4 := s27 _ _ ex4
    replace ex5 := s27 _ _ ex5
    replace ex6 := s27 _ _ ex6
    generalize L2.upd G26 x7 (.tup [.ref x1, .ref x2, .ref x3, .ref x4, .ref x5, .ref x6]) = G27 at *
    have one : ∀ {Hq : Hp} {t : Addr} (r : List Str), Hq t = some (.tup (r.map V.str)) → Dz K Hq (.ref t) (rD r) := fun r e => .tup e (dz_strs r)
    have dall : ∀ {Hq : Hp}, L2.Same G27 Hq → DzAll K Hq [.ref x1, .ref x2, .ref x3, .ref x4, .ref x5, .ref x6] (six.map rD) := fun s => .cons (one ["code"] (s _ _ ex1)) (.cons (one ["title"] (s _ _ ex2)) (.cons (one ["players"] (s _ _ ex3)) (.cons (one ["day"] (s _ _ ex4)) (.cons (one ["length"] (s _ _ ex5)) (.cons (one ["code", "title"] (s _ _ ex6)) .nil)))))
    refine ⟨_, rfl, .ref x7, .tuple (six.map rD), rfl, .tup ex7 (dall (Same.refl _)), by decide +kernel, fun Hy sy => ?_⟩
    rw [six_ok]
    refine ⟨true, true, rfl, rfl, _, rfl, iteT ?_⟩
    refine ⟨_, rfl, ?_⟩
    refine ⟨(by show 2 ≤ sizeLine; decide), fun y1 k1 => ⟨(by show 1 ≤ sizeLine; decide), fun y2 k2 => ?_⟩⟩
    have r1 := same_upd k1 (o := .tup [.str "day", .str "length"])
    have r2 := same_upd k2 (o := .tup [.ref y1])
    have sy2 := sy.trans (r1.trans r2)
    refine ⟨x7, y2, _, _, rfl, rfl, sy2 _ _ ex7, upd_same, (by show 6 + 1 ≤ sizeLine; decide), fun p Hp sp ep => ?_⟩
    have e1 := sp _ _ (r2 _ _ (upd_same : (L2.upd Hy y1 (.tup [.str "day", .str "length"])) y1 = _))
    refine ⟨.ref p, .tuple ((six ++ [(["day", "length"] : List Str)]).map rD), rfl, .tup ep (by
      rw [List.map_append]
      exact dz_cat (dall (sy2.trans sp)) (.cons (one ["day", "length"] e1) .nil)), by decide +kernel, fun Hz sz => ?_⟩
    rw [seven_no]
    exact ⟨false, false, rfl, rfl, q _⟩
end
end K21
set_option Elab.async false
set_option linter.all false
set_option maxRecDepth 100000
set_option maxHeartbeats 4000000
set_option pp.maxSteps 400
set_option pp.deepTerms false
namespace K21
open PySem PySem.Spec PyProof.Rows L2
open Xk Az
theorem all_mk {l : PySem.W.OpenLaw} {w : World} {K : PySem.W.Frag} {h : Heap} {mg : Str → Option Value} {fa f0 f1 f2 f3 f4 f5 f6 f7 f8 f9 f10 f11 f12 gFIELDS : Addr}
    {od0 an0 od1 an1 od2 an2 od3 an3 od4 an4 od5 an5 od6 an6 od7 an7 od8 an8 od9 an9 od10 an10 od11 an11 od12 an12 : Option Addr}
    {sl0 sl1 sl2 sl3 sl4 sl5 sl6 sl7 sl8 sl9 sl10 sl11 sl12 slgFIELDS : Array (Option Value)}
    {oc0 kV0 dc0 pm0 cd0 ct0 oc1 kV1 dc1 pm1 cd1 ct1 oc2 kV2 dc2 pm2 cd2 ct2 oc3 kV3 dc3 pm3 cd3 ct3 oc4 kV4 dc4 pm4 cd4 ct4 oc5 kV5 dc5 pm5 cd5 ct5 oc6 kV6 dc6 pm6 cd6 ct6 oc7 kV7 dc7 pm7 cd7 ct7 oc8 kV8 dc8 pm8 cd8 ct8 oc9 kV9 dc9 pm9 cd9 ct9 oc10 kV10 dc10 pm10 cd10 ct10 oc11 kV11 dc11 pm11 cd11 ct11 oc12 kV12 dc12 pm12 cd12 ct12 : Value}
    {ngFIELDS : Nat}
    {u_MOST_RULES w_FIELDS0 w_FIELDS1 w_FIELDS2 w_FIELDS3 w_FIELDS4 : Tok}
    (X : K.In h) (G : h.Ns mainGlobals mg) (hfa : mg "law" = some (.ref fa))
    (a0 : PySem.W.nsIn K mainGlobals "is_field" = some (some (.ref f0)))
    (l0 : K.lookup f0 = some ⟨oc0, od0, .func (PySem.W.fnOf "is_field" "is_field" (defArgs sIsField) (defBody sIsField) (defScope sIsField) .none kV0 dc0 pm0 an0 cd0 ct0), sl0⟩)
    (c0 : PySem.W.codeIn K cd0 "is_field" = true)
    (k0 : PySem.W.keepIn K (.ref f0) = true)
    (a1 : PySem.W.nsIn K mainGlobals "is_rule" = some (some (.ref f1)))
    (l1 : K.lookup f1 = some ⟨oc1, od1, .func (PySem.W.fnOf "is_rule" "is_rule" (defArgs sIsRule) (defBody sIsRule) (defScope sIsRule) .none kV1 dc1 pm1 an1 cd1 ct1), sl1⟩)
    (c1 : PySem.W.codeIn K cd1 "is_rule" = true)
    (k1 : PySem.W.keepIn K (.ref f1) = true)
    (a2 : PySem.W.nsIn K mainGlobals "are_rising" = some (some (.ref f2)))
    (l2 : K.lookup f2 = some ⟨oc2, od2, .func (PySem.W.fnOf "are_rising" "are_rising" (defArgs sAreRising) (defBody sAreRising) (defScope sAreRising) .none kV2 dc2 pm2 an2 cd2 ct2), sl2⟩)
    (c2 : PySem.W.codeIn K cd2 "are_rising" = true)
    (k2 : PySem.W.keepIn K (.ref f2) = true)
    (a3 : PySem.W.nsIn K mainGlobals "are_unlike" = some (some (.ref f3)))
    (l3 : K.lookup f3 = some ⟨oc3, od3, .func (PySem.W.fnOf "are_unlike" "are_unlike" (defArgs sAreUnlike) (defBody sAreUnlike) (defScope sAreUnlike) .none kV3 dc3 pm3 an3 cd3 ct3), sl3⟩)
    (c3 : PySem.W.codeIn K cd3 "are_unlike" = true)
    (k3 : PySem.W.keepIn K (.ref f3) = true)
    (a4 : PySem.W.nsIn K mainGlobals "are_rules" = some (some (.ref f4)))
    (l4 : K.lookup f4 = some ⟨oc4, od4, .func (PySem.W.fnOf "are_rules" "are_rules" (defArgs sAreRules) (defBody sAreRules) (defScope sAreRules) .none kV4 dc4 pm4 an4 cd4 ct4), sl4⟩)
    (c4 : PySem.W.codeIn K cd4 "are_rules" = true)
    (k4 : PySem.W.keepIn K (.ref f4) = true)
    (a5 : PySem.W.nsIn K mainGlobals "_law_hand" = some (some (.ref f5)))
    (l5 : K.lookup f5 = some ⟨oc5, od5, .func (PySem.W.fnOf "_law_hand" "_law_hand" (defArgs sHand) (defBody sHand) (defScope sHand) .none kV5 dc5 pm5 an5 cd5 ct5), sl5⟩)
    (c5 : PySem.W.codeIn K cd5 "_law_hand" = true)
    (k5 : PySem.W.keepIn K (.ref f5) = true)
    (a6 : PySem.W.nsIn K mainGlobals "_law_take" = some (some (.ref f6)))
    (l6 : K.lookup f6 = some ⟨oc6, od6, .func (PySem.W.fnOf "_law_take" "_law_take" (defArgs sTake) (defBody sTake) (defScope sTake) .none kV6 dc6 pm6 an6 cd6 ct6), sl6⟩)
    (c6 : PySem.W.codeIn K cd6 "_law_take" = true)
    (k6 : PySem.W.keepIn K (.ref f6) = true)
    (a7 : PySem.W.nsIn K mainGlobals "_law_pick" = some (some (.ref f7)))
    (l7 : K.lookup f7 = some ⟨oc7, od7, .func (PySem.W.fnOf "_law_pick" "_law_pick" (defArgs sPick) (defBody sPick) (defScope sPick) .none kV7 dc7 pm7 an7 cd7 ct7), sl7⟩)
    (c7 : PySem.W.codeIn K cd7 "_law_pick" = true)
    (k7 : PySem.W.keepIn K (.ref f7) = true)
    (a8 : PySem.W.nsIn K mainGlobals "_law_rules" = some (some (.ref f8)))
    (l8 : K.lookup f8 = some ⟨oc8, od8, .func (PySem.W.fnOf "_law_rules" "_law_rules" (defArgs sLawRules) (defBody sLawRules) (defScope sLawRules) .none kV8 dc8 pm8 an8 cd8 ct8), sl8⟩)
    (c8 : PySem.W.codeIn K cd8 "_law_rules" = true)
    (k8 : PySem.W.keepIn K (.ref f8) = true)
    (a9 : PySem.W.nsIn K mainGlobals "_law_are_rules" = some (some (.ref f9)))
    (l9 : K.lookup f9 = some ⟨oc9, od9, .func (PySem.W.fnOf "_law_are_rules" "_law_are_rules" (defArgs sLawAreRules) (defBody sLawAreRules) (defScope sLawAreRules) .none kV9 dc9 pm9 an9 cd9 ct9), sl9⟩)
    (c9 : PySem.W.codeIn K cd9 "_law_are_rules" = true)
    (k9 : PySem.W.keepIn K (.ref f9) = true)
    (a10 : PySem.W.nsIn K mainGlobals "_law_deep" = some (some (.ref f10)))
    (l10 : K.lookup f10 = some ⟨oc10, od10, .func (PySem.W.fnOf "_law_deep" "_law_deep" (defArgs sDeep) (defBody sDeep) (defScope sDeep) .none kV10 dc10 pm10 an10 cd10 ct10), sl10⟩)
    (c10 : PySem.W.codeIn K cd10 "_law_deep" = true)
    (k10 : PySem.W.keepIn K (.ref f10) = true)
    (a11 : PySem.W.nsIn K mainGlobals "_law_bent" = some (some (.ref f11)))
    (l11 : K.lookup f11 = some ⟨oc11, od11, .func (PySem.W.fnOf "_law_bent" "_law_bent" (defArgs sBent) (defBody sBent) (defScope sBent) .none kV11 dc11 pm11 an11 cd11 ct11), sl11⟩)
    (c11 : PySem.W.codeIn K cd11 "_law_bent" = true)
    (k11 : PySem.W.keepIn K (.ref f11) = true)
    (a12 : PySem.W.nsIn K mainGlobals "law" = some (some (.ref f12)))
    (l12 : K.lookup f12 = some ⟨oc12, od12, .func (PySem.W.fnOf "law" "law" (defArgs sLaw) (defBody sLaw) (defScope sLaw) .none kV12 dc12 pm12 an12 cd12 ct12), sl12⟩)
    (c12 : PySem.W.codeIn K cd12 "law" = true)
    (k12 : PySem.W.keepIn K (.ref f12) = true)
    (g_MOST_RULES : PySem.W.nsIn K mainGlobals "MOST_RULES" = some (some (.int 6 u_MOST_RULES)))
    (g_FIELDS : PySem.W.nsIn K mainGlobals "FIELDS" = some (some (.ref gFIELDS)))
    (h_FIELDS : K.lookup gFIELDS = some ⟨.type "tuple", none, .seq #[.str "code" w_FIELDS0, .str "title" w_FIELDS1, .str "players" w_FIELDS2, .str "day" w_FIELDS3, .str "length" w_FIELDS4] ngFIELDS, slgFIELDS⟩)
    (z_isinstance : PySem.W.nsIn K mainGlobals "isinstance" = some none)
    (z_str : PySem.W.nsIn K mainGlobals "str" = some none)
    (z_tuple : PySem.W.nsIn K mainGlobals "tuple" = some none)
    (z_len : PySem.W.nsIn K mainGlobals "len" = some none)
    (z_all : PySem.W.nsIn K mainGlobals "all" = some none)
    (z_range : PySem.W.nsIn K mainGlobals "range" = some none)
    (z_repr : PySem.W.nsIn K mainGlobals "repr" = some none)
    (z_list : PySem.W.nsIn K mainGlobals "list" = some none)
    (z_max : PySem.W.nsIn K mainGlobals "max" = some none)
    (z_min : PySem.W.nsIn K mainGlobals "min" = some none)
    (z_bool : PySem.W.nsIn K mainGlobals "bool" = some none)
    (z_set : PySem.W.nsIn K mainGlobals "set" = some none)
    (z_zip : PySem.W.nsIn K mainGlobals "zip" = some none)
    (z_enumerate : PySem.W.nsIn K mainGlobals "enumerate" = some none)
    (z_int : PySem.W.nsIn K mainGlobals "int" = some none)
    (z_any : PySem.W.nsIn K mainGlobals "any" = some none)
    (z_sorted : PySem.W.nsIn K mainGlobals "sorted" = some none)
    : ∃ fd : FuncData, (∀ (s : Shared) (v : Value), BindsTo s fd ⟨[v], []⟩ [("_law_script", v)]) ∧
      ∀ base : Heap, K.In base → base.Ns mainGlobals mg → base.NoDigits → Gn l.prog w K mg base 6 fa fd ["_law_script"] (spLaw K) := by
  have e := hfa.symm.trans (PySem.W.mg_of X G a12)
  cases e
  have F0 := fun_mk (st := sIsField) l0 c0 k0
  have D0 : Df K mg "is_field" ["thing"] sIsField f0 _ := ⟨F0, PySem.W.mg_of X G a0, F0.binds (ps := ["thing"]) fun _ _ _ _ _ _ us hl => match us, hl with | [_], _ => rfl⟩
  have F1 := fun_mk (st := sIsRule) l1 c1 k1
  have D1 : Df K mg "is_rule" ["thing"] sIsRule f1 _ := ⟨F1, PySem.W.mg_of X G a1, F1.binds (ps := ["thing"]) fun _ _ _ _ _ _ us hl => match us, hl with | [_], _ => rfl⟩
  have F2 := fun_mk (st := sAreRising) l2 c2 k2
  have D2 : Df K mg "are_rising" ["things"] sAreRising f2 _ := ⟨F2, PySem.W.mg_of X G a2, F2.binds (ps := ["things"]) fun _ _ _ _ _ _ us hl => match us, hl with | [_], _ => rfl⟩
  have F3 := fun_mk (st := sAreUnlike) l3 c3 k3
  have D3 : Df K mg "are_unlike" ["things"] sAreUnlike f3 _ := ⟨F3, PySem.W.mg_of X G a3, F3.binds (ps := ["things"]) fun _ _ _ _ _ _ us hl => match us, hl with | [_], _ => rfl⟩
  have F4 := fun_mk (st := sAreRules) l4 c4 k4
  have D4 : Df K mg "are_rules" ["thing"] sAreRules f4 _ := ⟨F4, PySem.W.mg_of X G a4, F4.binds (ps := ["thing"]) fun _ _ _ _ _ _ us hl => match us, hl with | [_], _ => rfl⟩
  have F5 := fun_mk (st := sHand) l5 c5 k5
  have D5 : Df K mg "_law_hand" ["_law_script"] sHand f5 _ := ⟨F5, PySem.W.mg_of X G a5, F5.binds (ps := ["_law_script"]) fun _ _ _ _ _ _ us hl => match us, hl with | [_], _ => rfl⟩
  have F6 := fun_mk (st := sTake) l6 c6 k6
  have D6 : Df K mg "_law_take" ["_law_hand_here", "_law_many"] sTake f6 _ := ⟨F6, PySem.W.mg_of X G a6, F6.binds (ps := ["_law_hand_here", "_law_many"]) fun _ _ _ _ _ _ us hl => match us, hl with | [_, _], _ => rfl⟩
  have F7 := fun_mk (st := sPick) l7 c7 k7
  have D7 : Df K mg "_law_pick" ["_law_hand_here", "_law_some"] sPick f7 _ := ⟨F7, PySem.W.mg_of X G a7, F7.binds (ps := ["_law_hand_here", "_law_some"]) fun _ _ _ _ _ _ us hl => match us, hl with | [_, _], _ => rfl⟩
  have F8 := fun_mk (st := sLawRules) l8 c8 k8
  have D8 : Df K mg "_law_rules" ["_law_hand_here"] sLawRules f8 _ := ⟨F8, PySem.W.mg_of X G a8, F8.binds (ps := ["_law_hand_here"]) fun _ _ _ _ _ _ us hl => match us, hl with | [_], _ => rfl⟩
  have F9 := fun_mk (st := sLawAreRules) l9 c9 k9
  have D9 : Df K mg "_law_are_rules" ["_law_thing"] sLawAreRules f9 _ := ⟨F9, PySem.W.mg_of X G a9, F9.binds (ps := ["_law_thing"]) fun _ _ _ _ _ _ us hl => match us, hl with | [_], _ => rfl⟩
  have F10 := fun_mk (st := sDeep) l10 c10 k10
  have D10 : Df K mg "_law_deep" ["_law_hand_here"] sDeep f10 _ := ⟨F10, PySem.W.mg_of X G a10, F10.binds (ps := ["_law_hand_here"]) fun _ _ _ _ _ _ us hl => match us, hl with | [_], _ => rfl⟩
  have F11 := fun_mk (st := sBent) l11 c11 k11
  have D11 : Df K mg "_law_bent" ["_law_hand_here", "_law_thing", "_law_deep_here"] sBent f11 _ := ⟨F11, PySem.W.mg_of X G a11, F11.binds (ps := ["_law_hand_here", "_law_thing", "_law_deep_here"]) fun _ _ _ _ _ _ us hl => match us, hl with | [_, _, _], _ => rfl⟩
  have F12 := fun_mk (st := sLaw) l12 c12 k12
  have D12 : Df K mg "law" ["_law_script"] sLaw fa _ := ⟨F12, PySem.W.mg_of X G a12, F12.binds (ps := ["_law_script"]) fun _ _ _ _ _ _ us hl => match us, hl with | [_], _ => rfl⟩
  have T : Txt K mg := ⟨⟨_, PySem.W.mg_of X G g_MOST_RULES⟩,
    ⟨gFIELDS, PySem.W.mg_of X G g_FIELDS, ⟨_, h_FIELDS, rfl, rfl⟩, fun H => .inr ⟨_, _, _, h_FIELDS, rfl, rfl, (by show 5 ≤ sizeLine; decide), .cons ⟨_, rfl⟩ (.cons ⟨_, rfl⟩ (.cons ⟨_, rfl⟩ (.cons ⟨_, rfl⟩ (.cons ⟨_, rfl⟩ .nil))))⟩⟩,
    PySem.W.mg_none_of X G z_isinstance,
    PySem.W.mg_none_of X G z_str,
    PySem.W.mg_none_of X G z_tuple,
    PySem.W.mg_none_of X G z_len,
    PySem.W.mg_none_of X G z_all,
    PySem.W.mg_none_of X G z_range,
    PySem.W.mg_none_of X G z_repr,
    PySem.W.mg_none_of X G z_list,
    PySem.W.mg_none_of X G z_max,
    PySem.W.mg_none_of X G z_min,
    PySem.W.mg_none_of X G z_bool,
    PySem.W.mg_none_of X G z_set,
    PySem.W.mg_none_of X G z_zip,
    PySem.W.mg_none_of X G z_enumerate,
    PySem.W.mg_none_of X G z_int,
    PySem.W.mg_none_of X G z_any,
    PySem.W.mg_none_of X G z_sorted⟩
  refine ⟨PySem.W.fnOf "law" "law" (defArgs sLaw) (defBody sLaw) (defScope sLaw) .none kV12 dc12 pm12 an12 cd12 ct12, fun s v => .of_eq rfl, fun base kb gb nd => ?g⟩
  case g =>
    have cF := D0.ca (ok_if (P := l.prog) (w := w) (base := base) D0 T)
    have cR := D2.ca (ok_ris (P := l.prog) (w := w) (base := base) D2 T)
    have cU := D3.ca (ok_un (P := l.prog) (w := w) (base := base) D3 T)
    have cIR := D1.ca (ok_ir D1 T cF cR)
    have cAr := D4.ca (ok_ar D4 T cIR cU)
    have cLa := D9.ca (ok_lar (P := l.prog) (w := w) (base := base) D9 T)
    have cH := D5.ca (ok_hand (P := l.prog) (w := w) (base := base) D5 T)
    have cT := D6.ca (ok_take (P := l.prog) (w := w) (base := base) D6)
    have cP := D7.ca (ok_pick D7 T cT)
    have cRl := D8.ca (ok_rl D8 T cT cP)
    have cBt := D11.ca (ok_bt D11 T cT cP (fn_bent D11 T cT cP 2))
    have cDp := D10.ca (ok_deep D10 T cT cP)
    exact ok_law D12 T cT cAr cLa cH cRl cBt cDp
end K21
open PySem PySem.W PyProof.Rows
set_option maxRecDepth 100000 in
set_option maxHeartbeats 0 in
theorem PySem.Challenge.cw_takesworks_k21_rules_of_anything_holds : PySem.Challenge.rw_takesworks_k21_rules_of_anything.Holds := by
  w_on; o_law; k_head; (case hw => w_witness2)
  k_fill
  refine K21.walk_go (l := PySem.Challenge.rw_takesworks_k21_rules_of_anything) (n := 63) (k := 6) (x := "_law_script") (sp := K21.spLaw) rfl (by decide) rfl ⟨rfl, by decide, by decide⟩ (fun w h Y => PySem.W.kIn_of Y) ?F
    (fun _ _ a ns hl hS => ⟨a, ns, rfl, hS, hl, fun _ => rfl⟩)
  case F =>
    intro w mg fa h KX G hmg
    refine' K21.all_mk KX G hmg ?a0 ?l0 ?c0 ?k0 ?a1 ?l1 ?c1 ?k1 ?a2 ?l2 ?c2 ?k2 ?a3 ?l3 ?c3 ?k3 ?a4 ?l4 ?c4 ?k4 ?a5 ?l5 ?c5 ?k5 ?a6 ?l6 ?c6 ?k6 ?a7 ?l7 ?c7 ?k7 ?a8 ?l8 ?c8 ?k8 ?a9 ?l9 ?c9 ?k9 ?a10 ?l10 ?c10 ?k10 ?a11 ?l11 ?c11 ?k11 ?a12 ?l12 ?c12 ?k12 ?g_MOST_RULES ?g_FIELDS ?h_FIELDS ?z_isinstance ?z_str ?z_tuple ?z_len ?z_all ?z_range ?z_repr ?z_list ?z_max ?z_min ?z_bool ?z_set ?z_zip ?z_enumerate ?z_int ?z_any ?z_sorted
    (case a0 => k_is)
    (case l0 => k_is)
    (case c0 => k_is)
    (case k0 => k_is)
    (case a1 => k_is)
    (case l1 => k_is)
    (case c1 => k_is)
    (case k1 => k_is)
    (case a2 => k_is)
    (case l2 => k_is)
    (case c2 => k_is)
    (case k2 => k_is)
    (case a3 => k_is)
    (case l3 => k_is)
    (case c3 => k_is)
    (case k3 => k_is)
    (case a4 => k_is)
    (case l4 => k_is)
    (case c4 => k_is)
    (case k4 => k_is)
    (case a5 => k_is)
    (case l5 => k_is)
    (case c5 => k_is)
    (case k5 => k_is)
    (case a6 => k_is)
    (case l6 => k_is)
    (case c6 => k_is)
    (case k6 => k_is)
    (case a7 => k_is)
    (case l7 => k_is)
    (case c7 => k_is)
    (case k7 => k_is)
    (case a8 => k_is)
    (case l8 => k_is)
    (case c8 => k_is)
    (case k8 => k_is)
    (case a9 => k_is)
    (case l9 => k_is)
    (case c9 => k_is)
    (case k9 => k_is)
    (case a10 => k_is)
    (case l10 => k_is)
    (case c10 => k_is)
    (case k10 => k_is)
    (case a11 => k_is)
    (case l11 => k_is)
    (case c11 => k_is)
    (case k11 => k_is)
    (case a12 => k_is)
    (case l12 => k_is)
    (case c12 => k_is)
    (case k12 => k_is)
    (case g_MOST_RULES => k_is)
    (case g_FIELDS => k_is)
    (case h_FIELDS => k_is)
    (case z_isinstance => k_is)
    (case z_str => k_is)
    (case z_tuple => k_is)
    (case z_len => k_is)
    (case z_all => k_is)
    (case z_range => k_is)
    (case z_repr => k_is)
    (case z_list => k_is)
    (case z_max => k_is)
    (case z_min => k_is)
    (case z_bool => k_is)
    (case z_set => k_is)
    (case z_zip => k_is)
    (case z_enumerate => k_is)
    (case z_int => k_is)
    (case z_any => k_is)
    (case z_sorted => k_is)
