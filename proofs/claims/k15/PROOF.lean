import PyProof.Rows.All
import Wide.All
import OpenK.AllK
import Wide.FinOn
import HandS.ForMost
import HandS.AnyAll
import HandS.EndTab
import HandS.EndOwn
import HandS.IsInst
import HandS.Style
import HandS.Wide
import HandS.Flow
import HandS.NoneIn
import HandS.WideBits
import HandS.GenOver
import PyProof.ReprRoads
import PySem.Challenge.RW_leastlore_k15_sets_of_rows
set_option Elab.async false
set_option linter.all false
set_option maxRecDepth 100000
set_option maxHeartbeats 4000000
namespace LL
open PySem PySem.Spec PyProof.Rows L2
/-! ### defs that are called where no repr runs -/
/-- as FnOk, but only where it is known that no repr is under way -/
structure FnG (P : Program) (w : World) (K : PySem.W.Frag) (mg : Str → Option Value) (base : Heap) (k : Nat) (f : Addr) (fd : FuncData) (ps : List Str) (sp : Sp) : Prop where
  len : ∀ vs H Q E, sp vs H Q E → vs.length = ps.length
  run : ∀ (A : Around) (outer : List Env) (s : Shared) (H : Hp) (args : Args) (us : List Value) (vs : List V) (Q : VK) (E : XK),
    A.guards = some [] → Room k A → Env0 P w K mg base A outer s H → BindsTo s fd args (ps.zip us) → Vals vs us → sp vs H Q E →
    codeAny (model P w) A (.call (.ref f) args) (CR CX0 outer P w H s Q E) s
section
variable {P : Program} {w : World} {K : PySem.W.Frag} {mg : Str → Option Value} {base : Heap}
theorem fnG_of {x : Str} {st : Stmt} {f : Addr} {fd : FuncData} {N ps : List Str} {k : Nat} {sp : Sp} (F : Fun K x x st f fd) (S : FnScope N ps (defScope st))
    (len : ∀ vs H Q E, sp vs H Q E → vs.length = ps.length)
    (body : ∀ (cdv : Value) (A : Around) (outer : List Env) (s : Shared) (H : Hp) (vs : List V) (Q : VK) (E : XK), A.guards = some [] →
      Room k (A.deeper (envOfC x (defScope st) s.heap.objs.size f cdv)) → sp vs H Q E →
      ∃ t, PSs (cxOf CX0 P w K mg base N x (defScope st) f cdv A outer s H E).nox (defBody st) t ∧ t { nx := fun _ H' => Q .non H', rt := Q } (start N vs) H) :
    FnG P w K mg base (k + 1) f fd ps sp := by
  refine ⟨len, fun A outer s H args us vs Q E guard room e0 bind rel want => ?_⟩
  obtain ⟨c1, d1, kv, doc, pm, an, cdv, c2, sl, rfl, look, isCode⟩ := F.ex
  have long := len _ _ _ _ want
  have inK : K.In s.heap := e0.mod.kin.keeps fun b o e => (e0.bs b o e).1
  have free : s.heap.NoLimit := e0.mod.nolimit.keeps fun b o e => (e0.bs b o e).1
  have pars : ∀ y ∈ ps.zip us, (defScope st).names.lookup y.1 = some .local ∨
      ((defScope st).names.lookup y.1 = some .cell ∧ ((cellsFrom (s.heap.objs.size + 1) (defScope st).names []).lookup y.1).isSome = true) := by
    rintro ⟨n, v⟩ hy
    rcases S.par n (List.of_mem_zip hy).1 with q | q
    · exact Or.inl q
    · exact Or.inr ⟨q, PySem.W.cellsFrom_some _ _ _ (Or.inl q)⟩
  refine codeAny_call_function room.depth (inK _ _ look) rfl S.co S.gen rfl (PySem.W.codeRec_of inK isCode) (bind _ _ _ _ ?_)
  refine wpAny_newFunctionEnv_cells S.kind pars fun env isEnv s1 made => ?_
  subst isEnv
  refine ⟨free.keeps made.toInCall.keep, codeAny_func ?_⟩
  obtain ⟨t, ht, hq⟩ := body cdv A outer s H vs Q E guard (room.deeper _) want
  have I := inv_start (CX := CX0) (E := E) S room.hd e0 long rel made
  have ht2 := ht.nox
  refine wpAny_mono (ht2.run [] s1 (start N vs) H _ I hq) (fun fl s' end_ => ?_) fun e s' z => z
  cases fl with
  | ret u =>
    obtain ⟨v, σ', H', J, rv, q⟩ := end_
    exact ⟨v, H', J.os, J.bare, J.base, J.hok, rv, q⟩
  | next =>
    obtain ⟨σ', H', J, q⟩ := end_
    exact ⟨.non, H', J.os, J.bare, J.base, J.hok, rfl, q⟩
  | brk =>
    obtain ⟨_, _, _, q⟩ := end_
    exact False.elim q
  | cont =>
    obtain ⟨_, _, _, q⟩ := end_
    exact False.elim q
end
/-- f(e, ..) for such a def -/
theorem pe_callG {X : Cx} {k : Nat} {f : Addr} {fd : FuncData} {ps : List Str} {sp : Sp} {x : Str} {p pos : Pos} {e : Expr} {es : List Expr} {t : TA}
    (F : FnG X.prog X.w X.K X.mg X.base k f fd ps sp) (guard : X.A.guards = some []) (room : Room k X.A) (hg : Gl X x) (hm : X.mg x = some (.ref f))
    (kp : PySem.W.keepIn X.K (.ref f) = true) (hb : Binds X.K fd ps []) (ha : PA X (e :: es) t) (hd : (x == ("__debug__" : Str)) = false := by decide)
    (he : starEach (e :: es) X.env = (false, eval e X.env) :: starEach es X.env := by rfl) (hp : (backTo pos (starEach es X.env)).any (·.1) = false := by rfl) :
    PE X (.Call (.Name x p) (e :: es) [] pos) (tCall sp [] E0 t) := by
  refine ⟨fun pins s σ H Q I h => wpAny_Call_Name_kw (ld_glob I hg hm ?_ hd)⟩
  refine PySem.W.callWith_K (h₀ := X.base) I.ok.mod.kin kp (thn (ha.run pos pins s σ H _ I h) fun us s1 ⟨vs, H1, J, rel, want⟩ => ⟨J.kIn, ?_⟩) he hp
  have want : sp (vs ++ []) H1 Q E0 := want
  rw [List.append_nil] at want
  have long : (us ++ []).length = ps.length := by
    rw [List.append_nil, ← rel.length]
    exact F.len _ _ _ _ want
  have bind := hb s1 us J.kIn long
  rw [List.append_nil] at bind
  refine wpAny_call (codeAny_mono (F.run X.A X.stack s1 H1 ⟨us, []⟩ us vs Q E0 guard room J.env0 bind rel want) fun r s' got => ?_)
  cases r with
  | error _ => exact False.elim got
  | ok fl =>
    cases fl with
    | ret u => exact J.after got
    | next => exact False.elim got
    | brk => exact False.elim got
    | cont => exact False.elim got
/-- repr of data -/
theorem call_reprD {X : Cx} (guard : X.A.guards = some []) {k : Nat} (room : Room k X.A) : CallR X (.builtin "repr") (fun xs H Q => ∃ v d, xs = [v] ∧ Dp X.K H v d ∧ isDisplay d = true ∧
    d.showable = true ∧ d.hasDict = false ∧ d.depth ≤ 60 ∧ d.shown.length ≤ sizeLine ∧ Q (.str d.shown) H) := by
  intro pins s σ H xs us Q I r ⟨v, d, e, dp, disp, sh, nd, dep, len, q⟩
  subst e
  obtain ⟨u, rfl, r1⟩ := vals1 r
  obtain ⟨as, rd⟩ := Dp.reads I d v u dp r1
  obtain ⟨a, rfl⟩ := isRef_of_reads rd disp
  exact repr_of_reads' rd sh (PyData.noDict_hsm nd) guard (by have := room.un; omega) (fun _ _ e => e)
    (fun h' u tk keep => ⟨.str _, H, I.kept keep, ⟨_, rfl⟩, q⟩) len
end LL
namespace LL
open PySem PySem.Spec PyProof.Rows L2
/-- what is tracked at a law's entry: the tables, and the script where it is no written thing -/
def entryH (T : List Addr) (K : PySem.W.Frag) (a : Addr) (scr : Obj) (ns : List Int) : Hp := fun b =>
  if b ∈ T then some (.tbl #[]) else if b = a ∧ K.lookup a = none then some (.frz scr (.lst (ns.map V.int))) else none
theorem entry_tab {T : List Addr} {K : PySem.W.Frag} {a b : Addr} {scr : Obj} {ns : List Int} (h : b ∈ T) : entryH T K a scr ns b = some (.tbl #[]) := if_pos h
theorem entry_cases {T : List Addr} {K : PySem.W.Frag} {a b : Addr} {scr : Obj} {ns : List Int} {u : HO} (h : entryH T K a scr ns b = some u) :
    (b ∈ T ∧ u = .tbl #[]) ∨ (b ∉ T ∧ b = a ∧ K.lookup a = none ∧ u = .frz scr (.lst (ns.map V.int))) := by
  unfold entryH at h
  by_cases m : b ∈ T
  · rw [if_pos m] at h
    exact Or.inl ⟨m, (Option.some.inj h).symm⟩
  · rw [if_neg m] at h
    by_cases q : b = a ∧ K.lookup a = none
    · rw [if_pos q] at h
      exact Or.inr ⟨m, q.1, q.2, (Option.some.inj h).symm⟩
    · rw [if_neg q] at h
      cases h
abbrev noTable : Obj := { cls := .none, data := .fields #[] }
theorem law_callG {P : Program} {w : World} {K : PySem.W.Frag} {mg mb : Str → Option Value} {k : Nat} {fa a : Addr} {cs : List (Addr × Addr)} {fd : FuncData} {x : Str} {sp : Sp} {s : Shared} {vals : List Value} {ns : List Int}
    (inK : K.In s.heap) (glob : s.heap.Ns mainGlobals mg) (blt : s.heap.Ns builtinsNs mb) (boot : ∀ y : Str, y ≠ "__name__" → mb y = bootBuiltins y) (free : s.heap.NoLimit) (noGen : s.gens = #[])
    (tabs : ∀ p ∈ cs, s.heap.get? p.2 = some noTable) (outK : ∀ p ∈ cs, K.lookup p.2 = none) (codes : ∀ p ∈ cs, PySem.W.CodeHd s.heap p.1 p.2)
    (main : ∃ (bm : Addr) (ob : Obj), mg "__builtins__" = some (.ref bm) ∧ bm ≠ builtinsNs ∧ s.heap.get? bm = some ob ∧ ob.cls = .type "module" ∧ ob.dict = some builtinsNs ∧ ob.data = .plain)
    (scr : s.heap.get? a = some { cls := .type "list", data := .seq vals.toArray }) (are : IntsAre vals ns) (few : ns.length ≤ sizeLine) (room : Room k callerA)
    (F : ∀ base : Heap, K.In base → base.Ns mainGlobals mg → (∀ p ∈ cs, GxR.TabB base mg p.1 p.2) → FnG P w K mg base k fa fd [x] sp)
    (bind : ∀ (s : Shared) (u : Value), BindsTo s fd ⟨[u], []⟩ [(x, u)])
    (ask : ∀ H : Hp, (∀ p ∈ cs, H p.2 = some (.tbl #[])) → SqL K H a (ns.map V.int) → sp [.ref a] H (fun v _ => v = .bl true) fun _ _ _ => False) :
    codeAny (model P w) callerA (.call (.ref fa) ⟨[.ref a], []⟩) (fun r s' => r = .ok (.ret (.bool true)) ∧ OldK s.heap s'.heap ∧ s'.os = s.os ∧ AllBare s'.gens) s := by
  let T : List Addr := cs.map (·.2)
  have tabAt : ∀ b, b ∈ T → s.heap.get? b = some noTable := fun b hb => by
    obtain ⟨p, hp, rfl⟩ := List.mem_map.mp hb
    exact tabs p hp
  have mem : ∀ p ∈ cs, p.2 ∈ T := fun p hp => List.mem_map_of_mem hp
  let H : Hp := entryH T K a { cls := .type "list", data := .seq vals.toArray } ns
  have aT : a ∉ T := fun z => by
    have q := tabAt a z
    rw [scr] at q
    have z' := congrArg Obj.data (Option.some.inj q)
    cases z'
  have rel := vals_ints are
  have seqA : SqL K H a (ns.map V.int) := by
    cases lk : K.lookup a with
    | some o =>
      have e := inK a o lk
      rw [scr] at e
      cases e
      exact .inr ⟨_, vals.toArray, _, lk, rfl, rfl, rfl, by rw [List.size_toArray, are.length]; exact few, by simpa using rel⟩
    | none =>
      refine .inl (.inr ⟨{ cls := .type "list", data := .seq vals.toArray }, ?_⟩)
      show entryH T K a _ ns a = _
      unfold entryH
      rw [if_neg aT, if_pos ⟨rfl, lk⟩]
  have ok : HOk P w H s.heap := fun b u e => by
    rcases entry_cases e with ⟨m, rfl⟩ | ⟨_, rfl, _, rfl⟩
    · exact tabAt b m
    · exact ⟨scr, by rw [List.length_map]; exact few, vals, _, rel, scr⟩
  -- what is of another kind isn't tracked
  have clear : ∀ {b : Addr} {o : Obj}, s.heap.get? b = some o → (∀ vs n, o.data ≠ .seq vs n) → o.data ≠ .fields #[] → H b = none := fun {b o} e n1 n2 => by
    cases q : H b with
    | none => rfl
    | some u =>
      rcases entry_cases q with ⟨m, _⟩ | ⟨_, rfl, _, _⟩
      · rw [tabAt b m] at e
        cases e
        exact absurd rfl n2
      · rw [scr] at e
        cases e
        exact absurd rfl (n1 _ _)
  have keepNs : ∀ {b : Addr} {m : Str → Option Value}, s.heap.Ns b m → (hidT s.heap H).Ns b m := fun {b m} ⟨o, es, ep, e, d, r⟩ => by
    refine ⟨o, es, ep, hidT_get e (clear e (fun vs n z => ?_) fun z => ?_), d, r⟩
    · rw [d] at z
      cases z
    · rw [d] at z
      cases z
  have inB : K.In (hidT s.heap H) := fun b o e => hidT_get (inK b o e) (by
    cases q : H b with
    | none => rfl
    | some u =>
      rcases entry_cases q with ⟨m, _⟩ | ⟨_, rfl, l, _⟩
      · obtain ⟨p, hp, rfl⟩ := List.mem_map.mp m
        rw [outK p hp] at e
        cases e
      · rw [l] at e
        cases e)
  have tabB : ∀ p ∈ cs, GxR.TabB (hidT s.heap H) mg p.1 p.2 := fun p hp => by
    have tp := tabs p hp
    refine ⟨?_, ?_, fun z => ?_⟩
    · obtain ⟨o, us, file, tf, fl, tg, inF, tx, tt, g1, g2, g3, g4, g5⟩ := codes p hp
      refine ⟨o, us, file, tf, fl, tg, inF, tx, tt, hidT_get g1 (clear g1 (fun vs n z => ?_) fun z => ?_), g2, g3, g4, g5⟩
      · rw [g3] at z
        cases z
      · rw [g3] at z
        cases z
        simp at g4
    · obtain ⟨bm, ob, b1, b2, b3, b4, b5, b6⟩ := main
      have nG : bm ≠ mainGlobals := fun q => by
        obtain ⟨o, es, ep, e, d, _⟩ := glob
        rw [q, e] at b3
        cases b3
        rw [d] at b6
        cases b6
      have nP : bm ≠ p.2 := fun q => by
        rw [q, tp] at b3
        cases b3
        cases b6
      refine ⟨bm, ob, b1, b2, nG, nP, hidT_get b3 (clear b3 (fun vs n z => ?_) fun z => ?_), b4, b5, b6⟩
      · rw [b6] at z
        cases z
      · rw [b6] at z
        cases z
    · obtain ⟨o, es, ep, e, d, _⟩ := glob
      rw [z, tp] at e
      cases e
      cases d
  have modB : L2.Mod K mg (hidT s.heap H) := ⟨inB, keepNs glob, ⟨mb, keepNs blt, boot⟩, by
    obtain ⟨mc, l1, l2⟩ := free
    exact ⟨mc, keepNs l1, l2⟩⟩
  have e0 : Env0 P w K mg (hidT s.heap H) callerA [] s H :=
    ⟨rfl, modB, fun b o e => of_hidT e, Nat.le_of_eq (hidT_size _ _), trivial, (fun b hb => absurd (show b ∈ ([] : List Addr) from hb) (by simp)), ok, .of_eq noGen⟩
  have run := (F _ inB (keepNs glob) tabB).run callerA [] s H ⟨[.ref a], []⟩ [.ref a] [.ref a] _ _ rfl room e0 (bind s (.ref a)) (.cons rfl .nil)
    (ask H (fun p hp => entry_tab (mem p hp)) seqA)
  refine codeAny_mono run fun r s' got => ?_
  cases r with
  | error _ => exact False.elim got
  | ok fl =>
    cases fl with
    | next => exact False.elim got
    | brk => exact False.elim got
    | cont => exact False.elim got
    | ret u =>
      obtain ⟨v, H', os, bare, un, ok', rv, q⟩ := got
      have qv : v = .bl true := q
      subst qv
      obtain rfl : u = Value.bool true := rv
      have grown : ∀ b, b ∈ T → ∃ more : Array Value, s'.heap.get? b = some { cls := .none, data := .fields more } := fun b hb => by
        obtain ⟨more, z⟩ := un.tbls b #[] (entry_tab hb)
        exact ⟨_, ok' b _ z⟩
      have stays : ∀ b o, b ∉ T → s.heap.get? b = some o → s'.heap.get? b = some o := fun b o n e => by
        cases q : H b with
        | none => exact un.keep b o e q (fun z => absurd (show b ∈ ([] : List Addr) from z) (by simp)) (by simp)
        | some u =>
          rcases entry_cases q with ⟨m, _⟩ | ⟨_, rfl, _, rfl⟩
          · exact absurd m n
          · obtain ⟨e2, _⟩ := ok' b _ (un.frzs b _ _ q)
            rw [scr] at e
            cases e
            exact e2
      refine ⟨rfl, ⟨fun b o e => ?_, fun b o e => ?_⟩, os, bare⟩
      · by_cases m : b ∈ T
        · obtain ⟨more, z⟩ := grown b m
          obtain ⟨p, hp, rfl⟩ := List.mem_map.mp m
          rw [tabs p hp] at e
          cases e
          exact .inr (.inl ⟨((codes p hp).tab (tabs p hp)).isCodeTable, rfl, #[], more, rfl, by rw [Array.empty_append]; exact z⟩)
        · exact .inl (stays b o m e)
      · by_cases m : b ∈ T
        · obtain ⟨more, z⟩ := grown b m
          exact ⟨_, z⟩
        · exact ⟨o, stays b o m e⟩
/-- what is to be known of a law's promise at its entry -/
def LawG (l : PySem.W.OpenLaw) (w : World) (K : PySem.W.Frag) (k n : Nat) (x : Str) (mg : Str → Option Value) (fa : Addr) (h : Heap) : Prop :=
  ∃ (fd : FuncData) (cs : List (Addr × Addr)) (sp : Sp), (∀ p ∈ cs, h.get? p.2 = some noTable) ∧ (∀ p ∈ cs, K.lookup p.2 = none) ∧ (∀ p ∈ cs, PySem.W.CodeHd h p.1 p.2) ∧
    (∀ (s : Shared) (u : Value), BindsTo s fd ⟨[u], []⟩ [(x, u)]) ∧
    (∀ (H : Hp) (a : Addr) (ns : List Int), ns.length ≤ n → (∀ p ∈ cs, H p.2 = some (.tbl #[])) → SqL K H a (ns.map V.int) → sp [.ref a] H (fun v _ => v = .bl true) fun _ _ _ => False) ∧
    ∀ base : Heap, K.In base → base.Ns mainGlobals mg → (∀ p ∈ cs, GxR.TabB base mg p.1 p.2) → FnG l.prog w K mg base k fa fd [x] sp
theorem walk_G {l : PySem.W.OpenLaw} {most lvl : Nat} {view : Program} {loose : List Str} {XP : (Str → Option Value) → Heap → Prop} {YP : World → Heap → Prop}
    {d : DefRec} {K : Params → PySem.W.Frag} {arg : Str}
    (h1 : l.most = some most) (h2 : most ≤ sizeLine) (h3 : d.params.defaults = []) (room : Room lvl callerA) (kIn : ∀ (w : World) (h : Heap), YP w h → (K w.params).In h)
    (F : ∀ (w : World) (mg : Str → Option Value) (fa : Addr) (h : Heap), YP w h → (K w.params).In h → h.Ns mainGlobals mg → mg d.name = some (.ref fa) →
      (∀ nm f, ((recsOf view).any fun r => r.name == nm) = true → mg nm = some (.ref f) → LamX.OwnTab (K w.params) f h) → LawG l w (K w.params) lvl most arg mg fa h) :
    PySem.W.WalkO view loose XP YP l.row.toRowW d [] (fun f vs => PySem.call f vs) := by
  refine Att.attach_callB h1 h3 fun w sa sb mg mb fa oL pm cd doc a vals nums gr yp hob hdata hrec hfa hscr hint hlen hbit hgen => ?_
  have inK := kIn w _ yp
  have tabs : ∀ nm f, ((recsOf view).any fun r => r.name == nm) = true → mg nm = some (.ref f) → LamX.OwnTab (K w.params) f sb.heap := fun nm f there hf cc TT ob ff ev di vv ss g1 g2 g3 g4 g5 => by
    obtain ⟨r, mem, same⟩ := List.any_eq_true.mp there
    have nmr : r.name = nm := beq_iff_eq.mp same
    obtain ⟨fb, ob', ff', cc', TT', i1, i2, i3, i4, _, i6⟩ := gr.T.tab r mem
    rw [nmr, hf] at i1
    cases i1
    rw [inK _ _ g1] at i2
    cases i2
    rw [g2] at i3
    cases i3
    rw [g3] at i4
    cases i4
    obtain ⟨⟨oc, vc, j1, _, j3, j4⟩, empty⟩ := i6
    rw [inK _ _ g4] at j1
    cases j1
    cases j3
    rw [g5] at j4
    cases j4
    exact empty
  obtain ⟨fd, cs, sp, t1, t2, t3, bind, ask, good⟩ := F w mg fa _ yp inK gr.T.g hfa tabs
  exact law_callG inK gr.T.g gr.T.b gr.T.builtins gr.T.nolimit hgen t1 t2 t3 gr.T.bmain hscr hint (Nat.le_trans hlen h2) room good bind
    (fun H q1 q2 => ask H a nums hlen q1 q2)
end LL
namespace LL
open PySem PySem.Spec PyProof.Rows L2

/-- the element over one sign; the name y is captured and holds the text b -/
def EltC (prog : Program) (w : World) (scope : Scope) (x y : Str) (elt : Expr) (b : Str) (pb : Nat → Bool) : Prop :=
  ∀ (ce : Env) (B : Around) (Ex : Value → Shared → Prop) (d : Nat) (u v : Tok) (r : Shared) (mm : Str → Option Value) (q : Addr),
    ce.scope = scope → ce.cells.lookup y = some q → r.heap.IsCell q (some (.str b v)) → r.heap.Ns ce.locals mm →
    mm x = some (.str ⟨#[d]⟩ u) → wpAny (model prog w) B (eval elt ce) (fun z r' => z = .bool (pb d) ∧ Keeps r r') Ex r

/-- sign in signs -/
theorem elt_in {prog : Program} {w : World} {scope : Scope} {x y b : Str} {p1 p2 p3 : Pos} (hk : scope.kind = .function)
    (hl : scope.names.lookup x = some .local) (hy : scope.names.lookup y = some .free)
    (d1 : (x == ("__debug__" : Str)) = false := by decide) (d2 : (y == ("__debug__" : Str)) = false := by decide)
    (d3 : (y == ("__classdict__" : Str)) = false := by decide) :
    EltC prog w scope x y (.Compare (.Name x p1) [.In] [.Name y p2] p3) b
      (fun c => !(Builtin.Str.occurrences b ⟨#[c]⟩ 0 b.length 1).isEmpty) := by
  intro ce B Ex d u v r mm q hs hc hq hn hm
  refine wpAny_Compare1 ?_
  refine wpAny_Name (wpAny_loadName_local (by rw [hs]; exact hk)
    (show ce.scope.names.lookup x = some .local by rw [hs]; exact hl) hn hm ?_) d1
  refine wpAny_Name (wpAny_loadName_free (by rw [hs]; exact hk)
    (show ce.scope.names.lookup y = some .free by rw [hs]; exact hy) hc hq ?_ d3) d2
  exact in_str ⟨rfl, GxR.keeps_tok _ _⟩

section
variable {X : Cx} {pins : List (Addr × Obj)} {σ : L2.St} {H : Hp} {s : Shared}

theorem gen_cap {c P : Addr} {elt iter : Expr} {x y : Str} {px gpos : Pos} {scope : Scope} {pb : Str → Nat → Bool}
    {te : TE} {k j : Nat} {Q' : Value → Shared → Prop} {R : Str → Str → Hp → Prop}
    (room : Room k X.A) (tabB : GxR.TabB X.base X.mg c P) (code_ : X.env.code = .ref c) (S : GxR.GenS X.env scope x)
    (it_ : PE X iter te) (el_ : ∀ b, EltC X.prog X.w scope x y elt b (pb b))
    (hj : X.N[j]? = some y) (hcel : X.env.scope.names.lookup y = some .cell)
    (hclo : ∀ cells q, cells.lookup y = some q → (cloFrom cells scope.names []).lookup y = some q)
    (fold_ : ∀ v, genFold iter X.env v = pure v) (I : Inv X pins σ H s)
    (h : te σ H fun v H1 => ∃ a b : Str, v = .str a ∧ σ[j]? = some (some (.str b)) ∧ GxR.TabG H1 P ∧ R a b H1)
    (fin : ∀ a b H1 g s5, R a b H1 → GxR.Ready X pins σ H1 P a (pb b) g s5 → Q' (.ref g) s5) :
    wpAny (model X.prog X.w) X.A (eval (.GeneratorExp elt [⟨.Name x px, iter, [], 0⟩] scope gpos) X.env) Q' X.xe s := by
  refine wpAny_GeneratorExp_walksQ room.hd S.co (closure_ok S.free) S.cell S.dot S.loc S.kind
    (by have := room.dp; omega) ?_ fold_
  refine thn (it_.run pins s σ H _ I h) fun vx r1 ⟨v, H1, J, rel, want⟩ => ?_
  obtain ⟨a, b, rfl, hb, ⟨tb, hTP, htri⟩, want⟩ := want
  obtain ⟨tk0, rfl⟩ := _root_.id rel
  -- the captured cell
  obtain ⟨mloc, _, hlook⟩ := J.loc
  obtain ⟨ub, rub, lub⟩ := hlook j y (.str b) hj hb (Or.inr (Or.inl hcel))
  obtain ⟨tkb, rfl⟩ := (show ∃ t, ub = Value.str b t from rub)
  have capt : ∃ q, X.env.cells.lookup y = some q ∧ r1.heap.IsCell q (some (.str b tkb)) := by
    rcases lub with ⟨hk1, _⟩ | ⟨_, q, hq1, hq2⟩
    · have hk2 : X.env.scope.names.lookup y = some .local := hk1
      rw [hcel] at hk2
      cases hk2
    · exact ⟨q, hq1, hq2⟩
  obtain ⟨q, hq1, oq, hqo, hqd⟩ := capt
  refine wpAny_pyIter_str fun ob Stp Wk hst0 => ?_
  have tabS : r1.heap.get? P = some { cls := .none, data := .fields tb } := J.hok P _ hTP
  have qP : q ≠ P := fun z => by
    rw [z, tabS] at hqo
    cases hqo
    cases hqd
  have ltP : P < r1.heap.objs.size := Heap.lt_size tabS
  have ltq : q < r1.heap.objs.size := Heap.lt_size hqo
  have tabN : (r1.heap.push ob).get? P = some { cls := .none, data := .fields tb } := Heap.get?_push_of_some _ tabS
  have hdN : PySem.W.CodeHd (r1.heap.push ob) c P :=
    tabB.code.keeps fun b' u' e' => Heap.get?_push_of_some _ (J.bk b' u' e')
  have limN : (r1.heap.push ob).NoLimit := J.nolimit.push ob
  refine ⟨limN, ?_⟩
  -- behind the code object, whichever it is
  have onward : ∀ (cv : Value) (h3 : Heap) (n3 : Nat) (tb' : Array Value), Heap.ExtBut P (r1.heap.push ob) h3 →
      (r1.heap.push ob).objs.size ≤ h3.objs.size → h3.get? P = some { cls := .none, data := .fields tb' } →
      (∃ more, tb' = tb ++ more) → TriplesOk tb'.toList →
      wpAny (model X.prog X.w) X.A (builtinsFor X.env.globals X.env.builtins) (fun bi s4 =>
        ∃ Ia fp wr n₀ Pf St₀ pz F, Value.ref r1.heap.objs.size = .ref Ia ∧
          (∀ A2 : Around, A2.handled = none → Walks X.prog X.w A2 Ia fp wr n₀ Pf St₀) ∧ St₀ 0 s4.heap ∧
          (∀ b' ∈ fp, b' < s4.heap.objs.size) ∧ s4.heap.NoLimit ∧ cStatics ∉ wr ∧
          (∀ hr : Heap, (∀ b' o', s4.heap.get? b' = some o' → hr.get? b' = some o') →
            QuietGen X.prog X.w
              (genEnv scope (cloFrom X.env.cells scope.names []) s4.heap.objs.size cv bi X.env)
              x [] elt (List.range s4.heap.objs.size) wr Pf pz F hr) ∧
          (∀ a' h5 n5 gs, gs.bare = true → s4.heap.objs.size < a' → h5.objs.size = a' + 1 →
            (∀ b' o', s4.heap.get? b' = some o' → h5.get? b' = some o') →
            WalksS X.prog X.w X.A.in4 a' (a' :: s4.heap.objs.size :: List.range s4.heap.objs.size)
              (s4.heap.objs.size :: wr) (GenOnlyQ s4.gens.size) (passing pz n₀ 0).length
              (fun i' y' => ∃ i, (passing pz n₀ 0)[i']? = some i ∧ F i y')
              (GenAt X.prog X.w X.A.in4 a' s4.gens.size s4.heap.objs.size
                (List.range s4.heap.objs.size) wr pz n₀ F) →
            GenAt X.prog X.w X.A.in4 a' s4.gens.size s4.heap.objs.size
              (List.range s4.heap.objs.size) wr pz n₀ F 0
              { s4 with gens := s4.gens.push gs, toks := n5, heap := h5 } →
            Q' (.ref a') { s4 with gens := s4.gens.push gs, toks := n5, heap := h5 })) X.xe
        { r1 with heap := h3, toks := n3 } := by
    intro cv h3 n3 tb' ext sz3 tab3 grew tri3
    obtain ⟨bm, mo, f1, f2, f3, f4, f5, f6, f7, f8⟩ := tabB.bm
    have statP : cStatics ≠ P := fun z => by
      obtain ⟨_, hns, _⟩ := J.nolimit
      obtain ⟨_, _, _, ho, hd, _⟩ := hns
      rw [z, tabS] at ho
      cases ho
      cases hd
    have statL : cStatics < r1.heap.objs.size := by
      obtain ⟨_, hns, _⟩ := J.nolimit
      exact hns.lt
    have szN : (r1.heap.push ob).objs.size = r1.heap.objs.size + 1 := Heap.size_push ..
    have old3 : ∀ b' u', b' ≠ P → r1.heap.get? b' = some u' → h3.get? b' = some u' :=
      fun b' u' ne e' => ext b' u' ne (Heap.get?_push_of_some _ e')
    have cell3 : h3.get? q = some oq := old3 q oq qP hqo
    refine wpAny_builtinsFor (m := X.mg)
      (by rw [J.ok.glob]; exact ((J.mod.glob.keeps J.bk).push ob).extBut ext tabB.gP)
      f1 f2 (old3 _ _ f4 (J.bk _ _ f5)) f6 f7 f8 ?_
    refine ⟨r1.heap.objs.size, [r1.heap.objs.size], [r1.heap.objs.size], a.cps.size, SignAt a, Stp, (fun _ => true),
      (fun i z => ∃ cc, a.cps[i]? = some cc ∧ z = .bool (pb b cc)), rfl, Wk, ?_, ?_, limN.extBut ext statP, ?_, ?_, ?_⟩
    · refine (Wk X.A room.hd).frame _ _ _ hst0 fun b' mem' u' e' => ext b' u' (fun z => ?_) e'
      rcases List.mem_cons.mp mem' with z2 | z2
      · exact Nat.ne_of_lt ltP (z.symm.trans z2)
      · cases z2
    · intro b' mem'
      rcases List.mem_cons.mp mem' with z | z
      · rw [z]
        exact Nat.lt_of_lt_of_le (by rw [szN]; exact Nat.lt_succ_self _) sz3
      · cases z
    · intro mem'
      rcases List.mem_cons.mp mem' with z | z
      · exact Nat.ne_of_lt statL z
      · cases z
    · intro hr hhr
      refine ⟨fun A2 E2 i v' s2 m2 _ _ _ _ _ => ?_, fun A2 E2 i v' s2 m2 _ at_ _ ns2 m2x keep2 => ?_⟩
      · simp only [List.forIn_nil]
        exact wpAny_pure ⟨rfl, GxR.keeps_refl _⟩
      · obtain ⟨cc, tk', hcc, rfl⟩ := at_
        have q2 : s2.heap.get? q = some oq := by
          refine keep2 q (List.mem_range.mpr ?_) ?_ oq (hhr q oq cell3)
          · exact Nat.lt_of_lt_of_le ltq (Nat.le_trans (by rw [szN]; exact Nat.le_succ _) sz3)
          · intro z
            rcases List.mem_cons.mp z with z | z
            · exact Nat.ne_of_lt ltq z
            · cases z
        exact wpAny_mono (el_ b _ A2 E2 cc tk' tkb s2 m2 q rfl (hclo _ _ hq1) ⟨oq, q2, hqd⟩ ns2 m2x)
          (fun z s3 r => ⟨⟨cc, hcc, r.1⟩, r.2⟩) fun _ _ e => e
    · intro g h5 n5 gs bare5 above5 sz5 keep5 W5 gat
      simp only [GxR.passing_true, List.length_range] at W5
      refine fin a b H1 g _ want ⟨_, _, _, _, _, W5.in4_1, gat, ?_, fun s9 mv => ?_⟩
      · intro i' z' sj Qj Ej hz' hQj
        obtain ⟨i, hi, cc, hcc, rfl⟩ := hz'
        obtain ⟨_, ei⟩ := List.getElem?_eq_some_iff.mp hi
        rw [List.getElem_range] at ei
        subst ei
        have at9 : a.cps.toList[i']? = some cc := by rw [Array.getElem?_toList]; exact hcc
        have hQ2 : Qj (GxR.trF (pb b) a.cps.toList i') sj := hQj
        rw [GxR.trF_some at9] at hQ2
        exact wpAny_truthy_bool hQ2
      · obtain ⟨more, em⟩ := grew
        have apart : ∀ b' u', r1.heap.get? b' = some u' → b' ∉ h3.objs.size :: [r1.heap.objs.size] := fun b' u' e' mem' => by
          have lt' := Heap.lt_size e'
          have sz9 : r1.heap.objs.size + 1 ≤ h3.objs.size := szN ▸ sz3
          rcases List.mem_cons.mp mem' with z | z
          · rw [z] at lt'
            exact absurd (Nat.lt_trans lt' (Nat.lt_of_lt_of_le (Nat.lt_succ_self _) sz9)) (Nat.lt_irrefl _)
          · rcases List.mem_cons.mp z with z | z
            · rw [z] at lt'
              exact Nat.lt_irrefl _ lt'
            · cases z
        have J9 := GxR.inv_tab (more := more) (h' := s9.heap) (g' := s9.gens) (d' := s9.drawn) (t' := s9.toks) J hTP
          (fun b' u' ne e' => mv.heap b' u' (apart b' u' e') (keep5 b' u' (old3 b' u' ne e')))
          (by rw [← em]; exact mv.heap P _ (apart P _ tabS) (keep5 P _ tab3)) (AllBare.movedS (J.bare.push bare5) mv)
        rw [GxR.sh_eta r1 s9 mv.os] at J9
        exact ⟨upd H1 P (.tbl (tb ++ more)), ⟨⟨tb ++ more, upd_same, by rw [← em]; exact tri3⟩, fun b' ne => upd_ne ne⟩, J9⟩
  cases seek : codeAmong gpos tb.toList with
  | none =>
    refine wpAny_genexprCodeX code_ (hdN.code tabN htri) (hdN.tab tabN) seek fun c' h' n' ext ge lt hco' _ htab' _ => ?_
    obtain ⟨_, _, _, _, _, _, _, _, _, _, _, _, _, _, _, _, _, _, _, tri', _⟩ := hco'
    exact onward _ h' n' _ ext (Nat.le_trans ge (Nat.le_of_lt lt)) htab'.2 ⟨_, rfl⟩ tri'
  | some cv =>
    refine wpAny_genexprCode_hit code_ (hdN.code tabN htri) seek ?_
    exact onward cv (r1.heap.push ob) r1.toks tb (Heap.ExtBut.refl _ _) (Nat.le_refl _) tabN ⟨#[], by simp⟩ htri

/-- all(elt for x in e), e a text, one captured text -/
def tAllC (P : Addr) (j : Nat) (pb : Str → Nat → Bool) (te : TE) : TE := fun σ H Q =>
  te σ H fun v H1 => ∃ a b : Str, v = .str a ∧ σ[j]? = some (some (.str b)) ∧ GxR.TabG H1 P ∧
    ∀ H2, GxR.Tabbed P H1 H2 → Q (.bl (a.cps.toList.all (pb b))) H2
theorem pe_allC {c P : Addr} {elt iter : Expr} {x y : Str} {px p pos gpos : Pos} {scope : Scope} {pb : Str → Nat → Bool}
    {te : TE} {k j : Nat} (room : Room k X.A) (hg : Gl X "all") (hm : X.mg "all" = none)
    (hb : bootBuiltins "all" = some (.builtin "all")) (tabB : GxR.TabB X.base X.mg c P) (code_ : X.env.code = .ref c)
    (S : GxR.GenS X.env scope x) (it_ : PE X iter te) (el_ : ∀ b, EltC X.prog X.w scope x y elt b (pb b))
    (hj : X.N[j]? = some y) (hcel : X.env.scope.names.lookup y = some .cell)
    (hclo : ∀ cells q, cells.lookup y = some q → (cloFrom cells scope.names []).lookup y = some q)
    (fold_ : ∀ v, genFold iter X.env v = pure v)
    (he : starEach [.GeneratorExp elt [⟨.Name x px, iter, [], 0⟩] scope gpos] X.env =
      (false, eval (.GeneratorExp elt [⟨.Name x px, iter, [], 0⟩] scope gpos) X.env) :: starEach [] X.env := by rfl) :
    PE X (.Call (.Name "all" p) [.GeneratorExp elt [⟨.Name x px, iter, [], 0⟩] scope gpos] [] pos) (tAllC P j pb te) := by
  refine ⟨fun pins s σ H Q I h => ?_⟩
  refine wpAny_Call_Name_kw (ld_blt I hg hm hb ?_)
  refine PyProof.Rows.callWith_builtin1 ?_ he (by rfl)
  rw [he]
  refine (show wpAny _ _ (spliced ((false, eval (.GeneratorExp elt [⟨.Name x px, iter, [], 0⟩] scope gpos) X.env) ::
    backTo pos (starEach [] X.env))) _ _ s from ?_)
  refine Calls.spliced_cons (gen_cap (R := fun a b H1 => ∀ H2, GxR.Tabbed P H1 H2 → Q (.bl (a.cps.toList.all (pb b))) H2)
    room tabB code_ S it_ el_ hj hcel hclo fold_ I h fun a b H1 g s5 hR rd => ?_)
  obtain ⟨fp, wr, G, F, Stg, Wg, hst, htr, back⟩ := rd
  refine Calls.spliced_nil ?_
  refine call_all_walkS (Wg.self 0 _ _ _ hst ⟨g, fp, wr, G, _, F, Stg, _, rfl, Wg, hst, htr, fun s9 mv => ?_⟩)
  obtain ⟨H2, tbd, J⟩ := back s9 mv
  refine ⟨.bl _, H2, J, rfl, ?_⟩
  rw [GxR.all_signs a (pb b)]
  exact hR H2 tbd
end
end LL
namespace LL
open PySem PySem.Spec PyProof.Rows L2
/-! ### all(elt for x in xs), xs a list, where elt may call defs -/
/-- where the element runs: a frame of its own over the def's -/
def gx (X : Cx) (cenv : Env) (N : List Str) (s : Shared) (H : Hp) (it : Addr) (A : Around) : Cx where
  prog := X.prog
  w := X.w
  K := X.K
  mg := X.mg
  base := X.base
  A := A
  N := N
  s_0 := s
  H_0 := H
  env := cenv
  outer := X.stack
  stack := cenv :: X.stack
  ex := [it]
  fn := fun _ => false
  calm := true
  pn := []
  xe := fun _ _ => False
theorem over_gen {A : Around} {elt : Expr} {gs : List Comprehension} {sc : Scope} {pos : Pos} {it acc : Value} {cenv : Env} :
    A.over (.compLoop (.GeneratorExp elt gs sc pos) 0 it acc cenv) [] = A.deeper cenv := by
  first
    | rfl
    | (obtain ⟨hd, d, fr, gs, u⟩ := A
       simp [Around.over, Around.deeper, marksOver, frameCount, unitsOf, envsOf, guardsOf, pushEnvs, pushGuards, Code.envs, Code.env?, Code.isFrame, Code.guards, Code.isGuard, Code.weight, Code.frames, Code.isCreation, Code.isCaller, Code.cUnits])
/-- same heap, other generators' states -/
theorem inv_gens {X : Cx} {pins : List (Addr × Obj)} {σ : L2.St} {H : Hp} {s s' : Shared} (I : Inv X pins σ H s) (hh : s'.heap = s.heap) (ho : s'.os = s.os) (hb : AllBare s'.gens) : Inv X pins σ H s' := by
  obtain ⟨h', g', d', t', o'⟩ := s'
  have e1 : h' = s.heap := hh
  have e2 : o' = s.os := ho
  subst e1
  subst e2
  exact I.step (g' := g') (d' := d') (t' := t') (ch := []) (fun _ z => nomatch z) (fun b o _ _ _ e _ => e) (fun b o _ _ _ e _ => ⟨o.slots, e⟩) (fun _ _ _ _ n => n)
    (fun b o _ e => ⟨o, e⟩) (fun _ _ e => e) (fun _ _ _ e => e) (fun b ps e => ⟨#[], by rw [e]; simp⟩) (fun _ z => z) I.hok hb
theorem clo_back {cells : List (Str × Addr)} {names : List (Str × NameKind)} (h : ∀ y ∈ names, y.2 = .free → ∃ c, cells.lookup y.1 = some c) {y : Str} {c : Addr}
    (e : (cloFrom cells names []).lookup y = some c) : cells.lookup y = some c := by
  rcases cloFrom_mem (PySem.mem_of_lookup e) with m | ⟨m, rfl⟩
  · cases m
  · obtain ⟨c', e'⟩ := h _ m rfl
    rw [e']
    rfl
section
variable {X : Cx} {pins : List (Addr × Obj)} {σ : L2.St} {H : Hp} {s : Shared}
/-- the start: in the state s the iterator is made, the code is there; then the frame and the generator are laid -/
theorem gen_start {scope : Scope} {x : Str} {cs : List (Str × Nat)} {cv : Value} {ia tk : Nat} {A : Around} {h1 h2 : Heap} {g2 : Array GenState} {m0 : Str → Option Value}
    (I : Inv X pins σ H s) (S : GxR.GenS X.env scope x)
    (caps : ∀ p ∈ cs, X.N[p.2]? = some p.1 ∧ X.env.scope.names.lookup p.1 = some .cell ∧ scope.names.lookup p.1 = some .free ∧
      ∀ q, X.env.cells.lookup p.1 = some q → (cloFrom X.env.cells scope.names []).lookup p.1 = some q)
    (hd : A.handled = none) (fr : A.frames = some (genEnv scope (cloFrom X.env.cells scope.names []) s.heap.objs.size cv builtinsNs X.env :: X.stack))
    (i1 : ia < s.heap.objs.size) (i2 : ∀ y c, X.env.cells.lookup y = some c → c ≠ ia) (i3 : ∀ b o, X.base.get? b = some o → b ≠ ia) (i4 : ia ∉ frs X.stack)
    (ns : h1.Ns s.heap.objs.size m0) (sb : Heap.SameBut s.heap.objs.size (s.heap.push { cls := .type "frame", data := .dict #[] }) h1)
    (keep : ∀ b o, h1.get? b = some o → h2.get? b = some o) (bare : AllBare g2) :
    Inv (gx X (genEnv scope (cloFrom X.env.cells scope.names []) s.heap.objs.size cv builtinsNs X.env) (x :: cs.map (·.1)) s H ia A) [] (none :: cs.map (fun p => σ.getD p.2 none)) H
      { s with heap := h2, gens := g2, toks := tk } := by
  have kp : ∀ b o, s.heap.get? b = some o → h2.get? b = some o := fun b o e =>
    keep b o (sb.extBut b o (Nat.ne_of_lt (Heap.lt_size e)) (Heap.get?_push_of_some _ e))
  have lt : ∀ y c, X.env.cells.lookup y = some c → c < s.heap.objs.size := fun y c e => by
    obtain ⟨v, z⟩ := I.cell y c e
    exact z.lt
  have back : ∀ {y : Str} {c : Addr}, (cloFrom X.env.cells scope.names []).lookup y = some c → X.env.cells.lookup y = some c := fun e => clo_back S.free e
  have okG : (gx X (genEnv scope (cloFrom X.env.cells scope.names []) s.heap.objs.size cv builtinsNs X.env) (x :: cs.map (·.1)) s H ia A).Ok := by
    refine ⟨I.ok.mod, S.kind, I.ok.glob, rfl, Nat.le_refl _, fun y z c e1 e2 => I.ok.inj y z c (back e1) (back e2), fun y hy => ?_, (fun y c z _ => absurd z (by simp [gx])), fun _ => hd, fr, .inr ⟨rfl, rfl⟩, fun b hb => ?_,
      I.bs, Nat.le_trans I.ok.bsz I.sz, fun b o e hb => ?_, fun b hb z => ?_, I.stack, I.stkFree⟩
    · have hk : scope.names.lookup y = some .free := by
        rcases hy with q | q
        · exact absurd rfl (S.cell _ (PySem.mem_of_lookup (show scope.names.lookup y = some .cell from q)))
        · exact q
      have hm : (y, NameKind.free) ∈ scope.names := PySem.mem_of_lookup hk
      obtain ⟨c, hc⟩ := mem_lookup (cloFrom_has (cells := X.env.cells) (acc := []) hm)
      exact ⟨c, hc⟩
    · have e : b = ia := by simpa [gx] using hb
      subst e
      exact ⟨Nat.ne_of_lt i1, fun y c e => i2 y c (back e)⟩
    · have e' : b = ia := by simpa [gx] using hb
      exact i3 b o e e'
    · have e : b = ia := by simpa [gx] using hb
      subst e
      exact i4 z
  refine ⟨okG, rfl, bare, Un.kept kp, ⟨m0, ?_, fun i y v e1 e2 e3 => ?_⟩, fun y c e => ?_, I.hok.fresh (Nat.le_refl _), fun y c e => I.freeC y c (back e), (fun p hp => absurd (show p ∈ ([] : List (Addr × Obj)) from hp) (by simp)), I.hok.kept kp, by simp [gx]⟩
  · obtain ⟨o, es, ep, e, r⟩ := ns
    exact ⟨o, es, ep, keep _ _ e, r⟩
  · cases i with
    | zero =>
      have e2 : (some (none : Option V)) = some (some v) := e2
      cases e2
    | succ j =>
      have e1 : (cs.map (·.1))[j]? = some y := e1
      have e2 : (cs.map (fun p => σ.getD p.2 none))[j]? = some (some v) := e2
      rw [List.getElem?_map] at e1 e2
      cases hp : cs[j]? with
      | none => rw [hp] at e1; cases e1
      | some p =>
        rw [hp] at e1 e2
        obtain rfl : p.1 = y := Option.some.inj e1
        have e2 : σ.getD p.2 none = some v := Option.some.inj e2
        obtain ⟨c1, c2, c3, c4⟩ := caps p (List.mem_of_getElem? hp)
        have e4 : σ[p.2]? = some (some v) := by
          rw [List.getD_eq_getElem?_getD] at e2
          cases q : σ[p.2]? with
          | none => rw [q] at e2; cases e2
          | some z => rw [q] at e2; exact congrArg some e2
        obtain ⟨m, _, look⟩ := I.loc
        obtain ⟨u, ru, lu⟩ := look p.2 p.1 v c1 e4 (.inr (.inl c2))
        refine ⟨u, ru, ?_⟩
        rcases lu with ⟨k1, _⟩ | ⟨_, q, q1, oq, q2, q3⟩
        · have k2 : X.env.scope.names.lookup p.1 = some .local := k1
          rw [c2] at k2
          cases k2
        · exact .inr ⟨.inr c3, q, c4 q q1, oq, kp _ _ q2, q3⟩
  · obtain ⟨v, o, e1, e2⟩ := I.cell y c (back e)
    exact ⟨v, o, kp _ _ e1, e2⟩
end
/-- a list or a tuple -/
def SqA (tp : Bool) (K : PySem.W.Frag) (H : Hp) (a : Addr) (xs : List V) : Prop := if tp = true then SqT K H a xs else SqL K H a xs
def itN (tp : Bool) : String := if tp = true then "tuple_iterator" else "list_iterator"
def ItO (tp : Bool) (yl : Addr) (i : Nat) (o : Obj) : Prop := o.cls = .type (itN tp) ∧ o.data = .fields #[.ref yl, .int i 0]
/-- an iterator's turn -/
theorem next_turn {tp : Bool} {X : Cx} {pins : List (Addr × Obj)} {σ : L2.St} {H : Hp} {s : Shared} {yl ia : Addr} {xs : List V} {i : Nat} {o : Obj} {v : V} {A : Around} {Q : Option Value → Shared → Prop} {E : Value → Shared → Prop}
    (I : Inv X pins σ H s) (hd : A.handled = none) (sq : SqA tp X.K H yl xs) (e : s.heap.get? ia = some o) (it : ItO tp yl i o) (hv : xs[i]? = some v)
    (h : ∀ u h1 tk o1, RelV v u → h1.get? ia = some o1 → ItO tp yl (i + 1) o1 → (∀ b o, b ≠ ia → s.heap.get? b = some o → h1.get? b = some o) → Q (some u) { s with heap := h1, toks := tk }) :
    wpAny (model X.prog X.w) A (pyNext (.ref ia)) Q E s := by
  have hlt : i < xs.length := (List.getElem?_eq_some_iff.mp hv).1
  obtain ⟨c, d⟩ := it
  cases tp with
  | false =>
    obtain ⟨its, rel, pl, _⟩ := I.list (show SqL X.K H yl xs from sq)
    have hlen : its.toArray.size = xs.length := by rw [List.size_toArray, ← rel.length]
    have ne : yl ≠ ia := fun z => by
      obtain ⟨o', e', c', _⟩ := pl.isList
      rw [z, e] at e'
      cases e'
      rw [c] at c'
      injection c' with c'
      exact absurd c' (by decide)
    refine (Walks.list hd ia yl ne its.toArray).item i s _ _ (by rw [hlen]; exact hlt) ⟨⟨o, e, c, d⟩, pl.isList⟩ fun u h1 tk hu st keep => ?_
    obtain ⟨o1, e1, r1⟩ := st.1
    obtain ⟨u', hu', r'⟩ := rel.get hv
    have hu2 : its.toArray[i]? = some u := hu
    rw [show its.toArray[i]? = some u' by simpa using hu'] at hu2
    cases hu2
    exact h _ h1 tk o1 r' e1 r1 fun b o hb q => keep b o (by simpa using hb) q
  | true =>
    obtain ⟨its, rel, pl, _⟩ := I.tuple (show SqT X.K H yl xs from sq)
    have hlen : its.toArray.size = xs.length := by rw [List.size_toArray, ← rel.length]
    have ne : yl ≠ ia := fun z => by
      obtain ⟨o', e', c', _⟩ := id pl
      rw [z, e] at e'
      cases e'
      rw [c] at c'
      injection c' with c'
      exact absurd c' (by decide)
    refine (Walks.tuple hd ia yl ne its.toArray).item i s _ _ (by rw [hlen]; exact hlt) ⟨⟨o, e, c, d⟩, pl⟩ fun u h1 tk hu st keep => ?_
    obtain ⟨o1, e1, r1⟩ := st.1
    obtain ⟨u', hu', r'⟩ := rel.get hv
    have hu2 : its.toArray[i]? = some u := hu
    rw [show its.toArray[i]? = some u' by simpa using hu'] at hu2
    cases hu2
    exact h _ h1 tk o1 r' e1 r1 fun b o hb q => keep b o (by simpa using hb) q
theorem next_end {tp : Bool} {X : Cx} {pins : List (Addr × Obj)} {σ : L2.St} {H : Hp} {s : Shared} {yl ia : Addr} {xs : List V} {o : Obj} {A : Around} {Q : Option Value → Shared → Prop} {E : Value → Shared → Prop}
    (I : Inv X pins σ H s) (hd : A.handled = none) (sq : SqA tp X.K H yl xs) (e : s.heap.get? ia = some o) (it : ItO tp yl xs.length o)
    (h : ∀ h1 tk, (∀ b o, b ≠ ia → s.heap.get? b = some o → h1.get? b = some o) → Q none { s with heap := h1, toks := tk }) :
    wpAny (model X.prog X.w) A (pyNext (.ref ia)) Q E s := by
  obtain ⟨c, d⟩ := it
  cases tp with
  | false =>
    obtain ⟨its, rel, pl, _⟩ := I.list (show SqL X.K H yl xs from sq)
    have hlen : its.toArray.size = xs.length := by rw [List.size_toArray, ← rel.length]
    have ne : yl ≠ ia := fun z => by
      obtain ⟨o', e', c', _⟩ := pl.isList
      rw [z, e] at e'
      cases e'
      rw [c] at c'
      injection c' with c'
      exact absurd c' (by decide)
    exact (Walks.list hd ia yl ne its.toArray).done s _ _ ⟨by rw [hlen]; exact ⟨o, e, c, d⟩, pl.isList⟩ fun h1 tk keep => h h1 tk fun b o hb q => keep b o (by simpa using hb) q
  | true =>
    obtain ⟨its, rel, pl, _⟩ := I.tuple (show SqT X.K H yl xs from sq)
    have hlen : its.toArray.size = xs.length := by rw [List.size_toArray, ← rel.length]
    have ne : yl ≠ ia := fun z => by
      obtain ⟨o', e', c', _⟩ := id pl
      rw [z, e] at e'
      cases e'
      rw [c] at c'
      injection c' with c'
      exact absurd c' (by decide)
    exact (Walks.tuple hd ia yl ne its.toArray).done s _ _ ⟨by rw [hlen]; exact ⟨o, e, c, d⟩, pl⟩ fun h1 tk keep => h h1 tk fun b o hb q => keep b o (by simpa using hb) q

/-- between two turns: i things were asked, each of them is so -/
def GS (X : Cx) (ga : Addr) (go : Obj) (ia : Addr) (It : Nat → Obj → Prop) (σ0 : L2.St) (g : Nat) (Pv : Nat → Hp → Prop) (i : Nat) (s : Shared) : Prop :=
  ∃ H, Inv X [(ga, go)] σ0 H s ∧ H ia = none ∧ (∃ o, s.heap.get? ia = some o ∧ It i o) ∧ g < s.gens.size ∧ Pv i H
/-- what is told when one thing was asked -/
def GY (X : Cx) (ga : Addr) (go : Obj) (ia : Addr) (It : Nat → Obj → Prop) (σ0 : L2.St) (g : Nat) (Pv : Nat → Hp → Prop) (Qf : Hp → Prop) (n : Nat) : Protocol := fun m _ v s kap =>
  g < s.gens.size ∧ ∃ b : Bool, v = .bool b ∧ (if b = true then ∃ i, i + m = n ∧ GS X ga go ia It σ0 g Pv i s ∧
      ∀ s'' : Shared, s''.heap = s.heap → s''.os = s.os → AllBare s''.gens → g < s''.gens.size → kap (.send .none) s''
    else ∃ H, Inv X [(ga, go)] σ0 H s ∧ Qf H)
def GR (X : Cx) (ga : Addr) (go : Obj) (σ0 : L2.St) (g : Nat) (Pv : Nat → Hp → Prop) (n : Nat) (m : Nat) (s : Shared) : Prop :=
  m = 0 ∧ ∃ H, Inv X [(ga, go)] σ0 H s ∧ g < s.gens.size ∧ Pv n H
section
variable {tp : Bool} {X : Cx} {ga ia yl : Addr} {go : Obj} {σ0 : L2.St} {g : Nat} {Pv : Nat → Hp → Prop} {Qf : Hp → Prop} {xs : List V} {te : TE}
theorem GS.gens {It : Nat → Obj → Prop} {i : Nat} {s s' : Shared} (h : GS X ga go ia It σ0 g Pv i s) (hh : s'.heap = s.heap) (ho : s'.os = s.os) (hb : AllBare s'.gens) (hg : g < s'.gens.size) : GS X ga go ia It σ0 g Pv i s' := by
  obtain ⟨H, I, n, it, _, p⟩ := h
  exact ⟨H, inv_gens I hh ho hb, n, by rw [hh]; exact it, hg, p⟩
theorem pinNe {H : Hp} {s : Shared} {i : Nat} {o : Obj} (I : Inv X [(ga, go)] σ0 H s) (e' : s.heap.get? ia = some o) (it : ItO tp yl i o) (isGen : go.cls = .type "generator") (hpn : X.pn = []) :
    ∀ q ∈ X.pn ++ [(ga, go)], q.1 ≠ ia := by
  intro q hq
  rw [hpn, List.nil_append] at hq
  obtain rfl := List.mem_singleton.mp hq
  intro z
  obtain ⟨e, _⟩ := I.pin (ga, go) (List.mem_append_right _ (List.mem_singleton.mpr rfl))
  obtain ⟨c, _⟩ := it
  have z : ga = ia := z
  have e : s.heap.get? ga = some go := e
  rw [z, e'] at e
  cases e
  rw [isGen] at c
  injection c with c
  cases tp <;> exact absurd c (by decide)
theorem gl_loop {B : Around} {elt iter : Expr} {x : Str} {px pos : Pos} {scope : Scope} (hA : X.A = B.deeper X.env) (hd : B.handled = none)
    (isGen : go.cls = .type "generator") (hpn : X.pn = []) (hia : ia ∈ X.ex) (hN : X.N.Nodup) (h0 : X.N[0]? = some x) (hl : X.env.scope.names.lookup x = some .local) (hco : X.env.scope.isCoroutine = false)
    (hσ : σ0[0]? = some none) (hel : PE X elt te) (xe : ∀ e s, X.xe e s → False)
    (list_ : ∀ i H, Pv i H → SqA tp X.K H yl xs) (step : ∀ i v H, xs[i]? = some v → Pv i H → te (σ0.set 0 (some v)) H fun y H' => ∃ b, y = .bl b ∧ if b = true then Pv (i + 1) H' else Qf H') :
    ∀ (r i : Nat) (s0 s : Shared), xs.length - i = r → i ≤ xs.length → GS X ga go ia (ItO tp yl) σ0 g Pv i s →
      Seg (model X.prog X.w) B (fun m _ q s1 => q = .ok .next ∧ GR X ga go σ0 g Pv xs.length m s1) (GY X ga go ia (ItO tp yl) σ0 g Pv Qf xs.length) r s0
        (.compLoop (.GeneratorExp elt [⟨.Name x px, iter, [], 0⟩] scope pos) 0 (.ref ia) .none X.env)
        ((model X.prog X.w).den (.compLoop (.GeneratorExp elt [⟨.Name x px, iter, [], 0⟩] scope pos) 0 (.ref ia) .none X.env)) [] s := by
  have over : B.over (.compLoop (.GeneratorExp elt [⟨.Name x px, iter, [], 0⟩] scope pos) 0 (.ref ia) .none X.env) [] = X.A := by rw [over_gen, hA]
  have hd' : X.A.handled = none := by rw [hA]; exact hd
  intro r
  induction r with
  | zero =>
    intro i s0 s hr hi ⟨H, I, na, ⟨oi, ei, it⟩, hg, p⟩
    have hin : i = xs.length := by omega
    subst hin
    obtain ⟨exL, exC⟩ := I.ok.exf ia hia
    show Seg _ B _ _ _ s0 _ ((compTurn (.GeneratorExp elt [⟨.Name x px, iter, [], 0⟩] scope pos) 0 (.ref ia) .none X.env).onRaise (leaving X.env)) [] s
    rw [compTurn_gen, Sem.onRaise_eq_wrap]
    refine seg_bind_wrap (wpAny_standAt ?_)
    refine seg_bind_wrap ?_
    rw [over]
    refine next_end I hd' (list_ _ _ p) ei it fun h' tk keep => ?_
    have I2 := I.turned (t' := tk) keep na exL (.inl hia) exC (pinNe I ei it isGen hpn)
    exact seg_end (.ok .next) ⟨rfl, by omega, H, I2, hg, p⟩
  | succ r ih =>
    intro i s0 s hr hi ⟨H, I, na, ⟨oj, ej, it⟩, hg, p⟩
    have hlt : i < xs.length := by omega
    obtain ⟨exL, exC⟩ := I.ok.exf ia hia
    have exF := I.ok.exfs ia hia
    show Seg _ B _ _ _ s0 _ ((compTurn (.GeneratorExp elt [⟨.Name x px, iter, [], 0⟩] scope pos) 0 (.ref ia) .none X.env).onRaise (leaving X.env)) [] s
    rw [compTurn_gen, Sem.onRaise_eq_wrap]
    refine seg_bind_wrap (wpAny_standAt ?_)
    obtain ⟨v, hv⟩ : ∃ v, xs[i]? = some v := ⟨xs[i], List.getElem?_eq_getElem hlt⟩
    refine seg_bind_wrap ?_
    rw [over]
    refine next_turn I hd' (list_ _ _ p) ej it hv fun u h1 tk oi ru e1 itn keep => ?_
    have I1 := I.turned (t' := tk) keep na exL (.inl hia) exC (pinNe I ej it isGen hpn)
    have I1p : Inv X [(ga, go), (ia, oi)] σ0 H { s with heap := h1, toks := tk } := I1.pins_of fun q hq => by
      rcases List.mem_cons.mp hq with rfl | hq
      · exact I1.pin (ga, go) (List.mem_append_right _ (List.mem_singleton.mpr rfl))
      · obtain rfl := List.mem_singleton.mp hq
        exact ⟨e1, na, exL, exF, fun v z => by
          have z : oi.data = .cell v := z
          rw [itn.2] at z
          cases z⟩
    refine seg_bind_wrap (wpAny_of_eq (rfl : letOwnedTupleGo (.Name x px) (.ref ia) u = pure ()) ?_)
    refine seg_bind_wrap ?_
    rw [over]
    refine GenW.wpAny_gsz (n := g + 1) hg ?_
    refine wpAny_assign_Name (store_ok I1p hN h0 (.inl hl) ru (fun s2 I2 hg2 => ?_) (.inr hl))
    simp only [List.forIn_nil]
    refine seg_bind_wrap (wpAny_pure ?_)
    simp only [if_true]
    have hy : ∀ v, yieldOut X.env v = yieldValue v := fun v => by simp only [yieldOut, hco, Bool.false_eq_true, if_false]
    simp only [hy]
    rw [Sem.bind_eq_wrap', Sem.bind_eq_wrap', Sem.wrap_wrap, Sem.wrap_wrap]
    refine seg_wrap ?_
    rw [over]
    refine GenW.wpAny_gsz (n := g + 1) hg2 ?_
    refine wpAny_mono (hel.run _ s2 _ H _ I2 (step i v H hv p)) (fun y s3 got hg3 => ?_) (fun e s3 z _ => (xe e s3 z).elim)
    obtain ⟨yv, H3, I3, ry, b, rfl, q⟩ := got
    obtain rfl : y = Value.bool b := ry
    have I4 : Inv X [(ga, go), (ia, oi)] σ0 H3 s3 := I3.weak (by rw [List.length_set]) fun j z hz => by
      cases j with
      | zero =>
        rw [hσ] at hz
        cases hz
      | succ j =>
        rw [List.getElem?_set_ne (by omega)]
        exact hz
    obtain ⟨p1, p2, _⟩ := I4.pin (ia, oi) (List.mem_append_right _ (List.mem_cons_of_mem _ List.mem_cons_self))
    have I5 : Inv X [(ga, go)] σ0 H3 s3 := I4.pins_of fun q hq => by
      obtain rfl := List.mem_singleton.mp hq
      exact I4.pin (ga, go) (List.mem_append_right _ List.mem_cons_self)
    refine seg_at (seg_yield rfl rfl rfl ⟨hg3, b, rfl, ?_⟩)
    cases b with
    | false =>
      rw [if_neg Bool.false_ne_true] at q ⊢
      exact ⟨H3, I5, q⟩
    | true =>
      rw [if_pos rfl] at q ⊢
      have gs : GS X ga go ia (ItO tp yl) σ0 g Pv (i + 1) s3 := ⟨H3, I5, p2, ⟨oi, p1, itn⟩, hg3, q⟩
      exact ⟨i + 1, by omega, gs, fun s4 z1 z2 z3 z4 => seg_again rfl (ih (i + 1) s4 s4 (by omega) (by omega) (gs.gens z1 z2 z3 z4))⟩
theorem bare_set {s : Shared} {g : Nat} {y : GenState} (h : AllBare s.gens) (hy : y.bare = true) : AllBare (s.setGen g y).gens := by
  intro z hz
  have hz : z ∈ s.gens.setIfInBounds g y := hz
  rcases Array.mem_or_eq_of_mem_setIfInBounds hz with m | rfl
  · exact h z m
  · exact hy
theorem size_set {s : Shared} {g : Nat} {y : GenState} : (s.setGen g y).gens.size = s.gens.size := by simp [Shared.setGen]
/-- all over such a generator -/
theorem gl_all {A B : Around} {Rr : Result → Shared → Prop} (hd : A.handled = none) (hB : B = A.in1.in1) (depth : A.depth < recursionLimit) (isG : ∀ h : Heap, h.get? ga = some go → h.IsGen ga g)
    (fin : ∀ b s' H, Inv X [(ga, go)] σ0 H s' → (if b = true then Pv xs.length H else Qf H) → Rr (.ok (.ret (.bool b))) s') :
    ∀ (m i : Nat) (s : Shared) (gs : GenState), i + m = xs.length → GS X ga go ia (ItO tp yl) σ0 g Pv i s → s.gens[g]? = some gs →
      (∀ s'' : Shared, s''.heap = s.heap → s''.os = s.os → AllBare s''.gens → g < s''.gens.size →
        gs.Goes (model X.prog X.w) B (fun m _ q s1 => q = .ok .next ∧ GR X ga go σ0 g Pv xs.length m s1) (GY X ga go ia (ItO tp yl) σ0 g Pv Qf xs.length) m (.send .none) s'') →
      codeAny (model X.prog X.w) A (.builtin "all.loop" ⟨[.ref ga], []⟩) Rr s := by
  intro m
  induction m with
  | zero =>
    intro i s gs him st hgs goes
    obtain ⟨H, I, na, it, hg, p⟩ := id st
    obtain ⟨pg, _⟩ := I.pin (ga, go) (List.mem_append_right _ (List.mem_singleton.mpr rfl))
    refine codeAny_builtin F.entry_all_loop ?_
    rw [Around.under_plainId F.plain_all_loop _]
    show wpAny _ A.in1 (pyNext (.ref ga) >>= _) _ _ s
    refine wpAny_bind ?_
    subst hB
    refine wpAny_pyNext_genexpQ (P := fun m _ s1 => GR X ga go σ0 g Pv xs.length m s1) hd I.nolimit depth (isG _ pg) hgs (goes _ rfl rfl (bare_set I.bare rfl) (by rw [size_set]; exact hg)) (fun v s1 gs' bare' got => ?_) (fun s1 got h' keep => ?_)
    · obtain ⟨hg1, b, rfl, q⟩ := got
      cases b with
      | false =>
        rw [if_neg Bool.false_ne_true] at q
        obtain ⟨H1, I1, q⟩ := q
        refine wpAny_bind (wpAny_holding (wpAny_truthy_bool ?_))
        refine wpAny_bind (wpAny_letGo ?_)
        simp only [Bool.false_eq_true, if_false]
        refine wpAny_bind (wpAny_rule (wpAny_pure ?_))
        exact fin false _ H1 (inv_gens I1 rfl rfl (bare_set I1.bare bare')) (by rw [if_neg Bool.false_ne_true]; exact q)
      | true =>
        rw [if_pos rfl] at q
        obtain ⟨j, hj, ⟨_, I1, _⟩, kap⟩ := q
        exact (kap s1 rfl rfl I1.bare hg1).elim
    · obtain ⟨_, H1, I1, hg1, q⟩ := got
      refine wpAny_bind (wpAny_rule (wpAny_pure ?_))
      have I2 := I1.kept (t' := s1.toks) keep
      exact fin true _ H1 (inv_gens I2 rfl rfl (bare_set I1.bare rfl)) (by rw [if_pos rfl]; exact q)
  | succ m ih =>
    intro i s gs him st hgs goes
    obtain ⟨H, I, na, it, hg, p⟩ := id st
    obtain ⟨pg, _⟩ := I.pin (ga, go) (List.mem_append_right _ (List.mem_singleton.mpr rfl))
    refine codeAny_builtin F.entry_all_loop ?_
    rw [Around.under_plainId F.plain_all_loop _]
    show wpAny _ A.in1 (pyNext (.ref ga) >>= _) _ _ s
    refine wpAny_bind ?_
    subst hB
    refine wpAny_pyNext_genexpQ (P := fun m _ s1 => GR X ga go σ0 g Pv xs.length m s1) hd I.nolimit depth (isG _ pg) hgs (goes _ rfl rfl (bare_set I.bare rfl) (by rw [size_set]; exact hg)) (fun v s1 gs' bare' got => ?_) (fun s1 got h' keep => ?_)
    · obtain ⟨hg1, b, rfl, q⟩ := got
      refine wpAny_bind (wpAny_holding (wpAny_truthy_bool ?_))
      refine wpAny_bind (wpAny_letGo ?_)
      cases b with
      | false =>
        rw [if_neg Bool.false_ne_true] at q
        obtain ⟨H1, I1, q⟩ := q
        simp only [Bool.false_eq_true, if_false]
        refine wpAny_bind (wpAny_rule (wpAny_pure ?_))
        exact fin false _ H1 (inv_gens I1 rfl rfl (bare_set I1.bare bare')) (by rw [if_neg Bool.false_ne_true]; exact q)
      | true =>
        rw [if_pos rfl] at q
        obtain ⟨j, hj, st1, kap⟩ := q
        simp only [if_true]
        have bare1 : AllBare s1.gens := by
          obtain ⟨_, I1, _⟩ := st1
          exact I1.bare
        have jm : j + m = xs.length := by omega
        refine wpAny_pure ⟨plainId_quiet F.plain_all_loop _, ih j _ gs' jm (st1.gens rfl rfl (bare_set bare1 bare') (by rw [size_set]; exact hg1)) (by simp [Shared.setGen, hg1]) fun s2 z1 z2 z3 z4 => ?_⟩
        exact kap s2 z1 z2 z3 z4
    · obtain ⟨z, _⟩ := got
      exact absurd z (Nat.succ_ne_zero m)
theorem gl_start {B : Around} {elt iter : Expr} {x : Str} {px pos : Pos} {scope : Scope} {n : Nat} {s0 s : Shared} {R : GenEnd} {Y : Protocol} (hd : B.handled = none) {i : Nat} (it : ∃ o, s.heap.get? ia = some o ∧ ItO tp yl i o)
    (loop : Seg (model X.prog X.w) B R Y n s0 (.compLoop (.GeneratorExp elt [⟨.Name x px, iter, [], 0⟩] scope pos) 0 (.ref ia) .none X.env)
        ((model X.prog X.w).den (.compLoop (.GeneratorExp elt [⟨.Name x px, iter, [], 0⟩] scope pos) 0 (.ref ia) .none X.env)) [] s) :
    Seg (model X.prog X.w) B R Y n s0 (.compStart (.GeneratorExp elt [⟨.Name x px, iter, [], 0⟩] scope pos) 0 (.ref ia) .none X.env)
      ((model X.prog X.w).den (.compStart (.GeneratorExp elt [⟨.Name x px, iter, [], 0⟩] scope pos) 0 (.ref ia) .none X.env)) [] s := by
  have self : ∀ (A : Around) (Q : Value → Shared → Prop) (E : Value → Shared → Prop), Q (.ref ia) s → wpAny (model X.prog X.w) A (pyIter (.ref ia)) Q E s := fun A Q E h => by
    obtain ⟨o, e, c, d⟩ := it
    cases tp with
    | false => exact wpAny_pyIter_listiter ⟨o, e, c, d⟩ h
    | true => exact wpAny_pyIter_tupleiter ⟨o, e, c, d⟩ h
  show Seg _ B _ _ _ s0 _ ((compStart (.GeneratorExp elt [⟨.Name x px, iter, [], 0⟩] scope pos) 0 (.ref ia) .none X.env).onRaise (leaving X.env)) [] s
  unfold compStart
  rw [Sem.onRaise_eq_wrap]
  show Seg _ B _ _ _ s0 _ ((ask >>= _).wrap _ _ _ _) [] s
  refine seg_bind_wrap (wpAny_askSetting ?_)
  split
  · exact seg_again rfl loop
  · first
      | exact seg_bind_wrap (wpAny_rule (seg_bind_wrap (wpAny_standAt (seg_bind_wrap (self _ _ _ (seg_again rfl loop))))))
      | (refine seg_bind_wrap (wpAny_rule ?_)
         exact seg_bind_wrap (wpAny_standAt (seg_bind_wrap (self _ _ _ (seg_again rfl loop)))))
end
/-- all(elt for x in e), e a list or a tuple -/
def tAllL (tp : Bool) (K : PySem.W.Frag) (P : Addr) (cs : List (Str × Nat)) (tl te : TE) : TE := fun σ H Q => tl σ H fun v H1 => ∃ (a : Addr) (xs : List V), v = .ref a ∧ SqA tp K H1 a xs ∧ GxR.TabG H1 P ∧
  ∃ Pv : Nat → Hp → Prop, (∀ H2, GxR.Tabbed P H1 H2 → Pv 0 H2) ∧ (∀ i H, Pv i H → SqA tp K H a xs) ∧
    (∀ i v H, xs[i]? = some v → Pv i H → te (some v :: cs.map (fun p => σ.getD p.2 none)) H fun y H' => ∃ b, y = .bl b ∧ if b = true then Pv (i + 1) H' else Q (.bl false) H') ∧
    ∀ H, Pv xs.length H → Q (.bl true) H
theorem iter_of {tp : Bool} {X : Cx} {pins : List (Addr × Obj)} {σ : L2.St} {H : Hp} {s : Shared} {a : Addr} {xs : List V} {A : Around} {Q : Value → Shared → Prop} {E : Value → Shared → Prop}
    (I : Inv X pins σ H s) (sq : SqA tp X.K H a xs) (h : Q (.ref s.heap.objs.size) { s with heap := s.heap.push { cls := .type (itN tp), data := .fields #[.ref a, .int 0 0] } }) :
    wpAny (model X.prog X.w) A (pyIter (.ref a)) Q E s := by
  cases tp with
  | false =>
    obtain ⟨its, _, pl, _⟩ := I.list (show SqL X.K H a xs from sq)
    exact wpAny_pyIter_list pl.isList h
  | true =>
    obtain ⟨its, _, pl, _⟩ := I.tuple (show SqT X.K H a xs from sq)
    exact wpAny_pyIter_tuple pl h
theorem pe_allL (tp : Bool) {X : Cx} {c P : Addr} {elt iter : Expr} {x : Str} {px p pos gpos : Pos} {scope : Scope} (cs : List (Str × Nat)) {tl te : TE} {k : Nat}
    (room : Room (k + 3) X.A) (hg : Gl X "all") (hm : X.mg "all" = none) (hb : bootBuiltins "all" = some (.builtin "all")) (tabB : GxR.TabB X.base X.mg c P) (code_ : X.env.code = .ref c)
    (S : GxR.GenS X.env scope x) (it_ : PE X iter tl) (nd : (x :: cs.map (·.1)).Nodup)
    (caps : ∀ q ∈ cs, X.N[q.2]? = some q.1 ∧ X.env.scope.names.lookup q.1 = some .cell ∧ scope.names.lookup q.1 = some .free ∧
      ∀ b, X.env.cells.lookup q.1 = some b → (cloFrom X.env.cells scope.names []).lookup q.1 = some b)
    (el_ : ∀ (cv : Value) (s : Shared) (H : Hp) (ia : Addr) (A : Around), Room k A →
      PE (gx X (genEnv scope (cloFrom X.env.cells scope.names []) s.heap.objs.size cv builtinsNs X.env) (x :: cs.map (·.1)) s H ia A) elt te)
    (fold_ : ∀ v, genFold iter X.env v = pure v)
    (he : starEach [.GeneratorExp elt [⟨.Name x px, iter, [], 0⟩] scope gpos] X.env =
      (false, eval (.GeneratorExp elt [⟨.Name x px, iter, [], 0⟩] scope gpos) X.env) :: starEach [] X.env := by rfl) :
    PE X (.Call (.Name "all" p) [.GeneratorExp elt [⟨.Name x px, iter, [], 0⟩] scope gpos] [] pos) (tAllL tp X.K P cs tl te) := by
  refine ⟨fun pins s σ H Q I h => ?_⟩
  refine wpAny_Call_Name_kw (ld_blt I hg hm hb ?_)
  refine PyProof.Rows.callWith_builtin1 ?_ he (by rfl)
  rw [he]
  refine (show wpAny _ _ (spliced ((false, eval (.GeneratorExp elt [⟨.Name x px, iter, [], 0⟩] scope gpos) X.env) ::
    backTo pos (starEach [] X.env))) _ _ s from ?_)
  refine Calls.spliced_cons ?_
  refine wpAny_GeneratorExp_make S.co (closure_ok S.free) S.cell S.dot S.kind (by have := room.dp; omega) ?_ fold_
  refine thn (it_.run pins s σ H _ I h) fun vx r1 ⟨v, H1, J, rel, want⟩ => ?_
  obtain ⟨a, xs, rfl, sq, ⟨tb, hTP, htri⟩, Pv, p0, pl, step, fin⟩ := want
  obtain rfl : vx = Value.ref a := rel
  refine iter_of J sq ?_
  have tabS : r1.heap.get? P = some { cls := .none, data := .fields tb } := J.hok P _ hTP
  have ltP : P < r1.heap.objs.size := Heap.lt_size tabS
  generalize hob : ({ cls := .type (itN tp), data := .fields #[.ref a, .int 0 0] } : Obj) = ob
  have tabN : (r1.heap.push ob).get? P = some { cls := .none, data := .fields tb } := Heap.get?_push_of_some _ tabS
  have hdN : PySem.W.CodeHd (r1.heap.push ob) c P := tabB.code.keeps fun b' u' e' => Heap.get?_push_of_some _ (J.bk b' u' e')
  have limN : (r1.heap.push ob).NoLimit := J.nolimit.push ob
  have obN : (r1.heap.push ob).get? r1.heap.objs.size = some ob := Heap.get?_push_size _ (by rw [← hob]; rfl)
  refine ⟨limN, ?_⟩
  have szN : (r1.heap.push ob).objs.size = r1.heap.objs.size + 1 := Heap.size_push ..
  have onward : ∀ (cv : Value) (h3 : Heap) (n3 : Nat) (tb' : Array Value), Heap.ExtBut P (r1.heap.push ob) h3 →
      (r1.heap.push ob).objs.size ≤ h3.objs.size → h3.get? P = some { cls := .none, data := .fields tb' } →
      (∃ more, tb' = tb ++ more) → TriplesOk tb'.toList →
      wpAny (model X.prog X.w) X.A (builtinsFor X.env.globals X.env.builtins) (fun bi s4 =>
        ∀ h', h'.Ns s4.heap.objs.size (fun y => if y = ".0" then some (.ref r1.heap.objs.size) else none) → Heap.SameBut s4.heap.objs.size (s4.heap.push { cls := .type "frame", data := .dict #[] }) h' →
          wpAny (model X.prog X.w) X.A (spliced (backTo pos (starEach [] X.env))) (fun vs s6 => wpAny (model X.prog X.w) X.A (call (.builtin "all") (.ref h'.objs.size :: vs)) (EP X pins σ Q) X.xe s6) X.xe
            { s4 with
              gens := s4.gens.push (.fresh (.compStart (.GeneratorExp elt [⟨.Name x px, iter, [], 0⟩] scope gpos) 0 (.ref r1.heap.objs.size) .none (genEnv scope (cloFrom X.env.cells scope.names []) s4.heap.objs.size cv bi X.env))),
              toks := s4.toks + 1 + 1 + 1,
              heap := h'.push { cls := .type "generator", data := .fields #[.int s4.gens.size 0, .str "<genexpr>" (s4.toks + 1), .str (X.env.qual ++ "<genexpr>") (s4.toks + 1 + 1)] } }) X.xe
        { r1 with heap := h3, toks := n3 } := by
    intro cv h3 n3 tb' ext sz3 tab3 grew tri3
    obtain ⟨bm, mo, f1, f2, f3, f4, f5, f6, f7, f8⟩ := tabB.bm
    have old3 : ∀ b' u', b' ≠ P → r1.heap.get? b' = some u' → h3.get? b' = some u' := fun b' u' ne e' => ext b' u' ne (Heap.get?_push_of_some _ e')
    refine wpAny_builtinsFor (m := X.mg) (by rw [J.ok.glob]; exact ((J.mod.glob.keeps J.bk).push ob).extBut ext tabB.gP) f1 f2 (old3 _ _ f4 (J.bk _ _ f5)) f6 f7 f8 ?_
    intro h' ns sb
    obtain ⟨more, em⟩ := grew
    have J4 := GxR.inv_tab (more := more) (h' := h3) (g' := r1.gens) (d' := r1.drawn) (t' := n3) J hTP old3 (by rw [← em]; exact tab3) J.bare
    generalize hH2 : upd H1 P (.tbl (tb ++ more)) = H2 at J4
    have tbd : GxR.Tabbed P H1 H2 := by
      rw [← hH2]
      exact ⟨⟨tb ++ more, upd_same, by rw [← em]; exact tri3⟩, fun b' ne => upd_ne ne⟩
    generalize hgo : ({ cls := .type "generator", data := .fields #[.int r1.gens.size 0, .str "<genexpr>" (n3 + 1), .str (X.env.qual ++ "<genexpr>") (n3 + 1 + 1)] } : Obj) = go
    have i1 : r1.heap.objs.size < h3.objs.size := Nat.lt_of_lt_of_le (by rw [szN]; exact Nat.lt_succ_self _) sz3
    have ia3 : h3.get? r1.heap.objs.size = some ob := ext _ _ (Nat.ne_of_gt ltP) obN
    have ia' : h'.get? r1.heap.objs.size = some ob := sb.extBut _ _ (Nat.ne_of_lt i1) (Heap.get?_push_of_some _ ia3)
    have i2 : ∀ y b, X.env.cells.lookup y = some b → b ≠ r1.heap.objs.size := fun y b e => by
      obtain ⟨v, z⟩ := J.cell y b e
      exact Nat.ne_of_lt z.lt
    have i3 : ∀ b o, X.base.get? b = some o → b ≠ r1.heap.objs.size := fun b o e => Nat.ne_of_lt (Heap.lt_size (J.bk b o e))
    have i4 : r1.heap.objs.size ∉ frs X.stack := fun z => by
      obtain ⟨_, o, ho, _⟩ := J.stack.mem z
      exact absurd (Heap.lt_size ho) (Nat.lt_irrefl _)
    have I0 := gen_start (cs := cs) (cv := cv) (ia := r1.heap.objs.size) (A := X.A.in1.in1.deeper (genEnv scope (cloFrom X.env.cells scope.names []) h3.objs.size cv builtinsNs X.env))
      (tk := n3 + 1 + 1 + 1) (h2 := h'.push go) (g2 := r1.gens.push (.fresh (.compStart (.GeneratorExp elt [⟨.Name x px, iter, [], 0⟩] scope gpos) 0 (.ref r1.heap.objs.size) .none (genEnv scope (cloFrom X.env.cells scope.names []) h3.objs.size cv builtinsNs X.env))))
      J4 S caps room.hd (by simp [Around.deeper, Around.in1, J4.ok.frames]) i1 i2 i3 i4 ns sb (fun b o e => Heap.get?_push_of_some _ e) (J.bare.push rfl)
    have hel := el_ cv { r1 with heap := h3, toks := n3 } H2 r1.heap.objs.size (X.A.in1.in1.deeper (genEnv scope (cloFrom X.env.cells scope.names []) h3.objs.size cv builtinsNs X.env)) (room.in1.in1.deeper _)
    generalize hY : gx X (genEnv scope (cloFrom X.env.cells scope.names []) h3.objs.size cv builtinsNs X.env) (x :: cs.map (·.1)) { r1 with heap := h3, toks := n3 } H2 r1.heap.objs.size (X.A.in1.in1.deeper (genEnv scope (cloFrom X.env.cells scope.names []) h3.objs.size cv builtinsNs X.env)) = Y at I0 hel
    have isgo : go.cls = .type "generator" := by rw [← hgo]
    have gaI : (h'.push go).get? h'.objs.size = some go := Heap.get?_push_size _ (by rw [← hgo]; rfl)
    have szH : h'.objs.size = h3.objs.size + 1 := sb.1.trans (Heap.size_push ..)
    have gaH : H2 h'.objs.size = none := J4.hok.fresh (show h3.objs.size ≤ h'.objs.size by omega)
    have I1 : Inv Y [(h'.objs.size, go)] (none :: cs.map (fun p => σ.getD p.2 none)) H2 { r1 with heap := h'.push go, gens := r1.gens.push (.fresh (.compStart (.GeneratorExp elt [⟨.Name x px, iter, [], 0⟩] scope gpos) 0 (.ref r1.heap.objs.size) .none (genEnv scope (cloFrom X.env.cells scope.names []) h3.objs.size cv builtinsNs X.env))), toks := n3 + 1 + 1 + 1 } :=
      I0.pins_of fun q hq => by
        obtain rfl := List.mem_singleton.mp hq
        refine ⟨gaI, gaH, ?_, ?_, ?_⟩
        · rw [← hY]
          show h'.objs.size ≠ h3.objs.size
          omega
        · rw [← hY]
          intro z
          obtain ⟨_, o, ho, _⟩ := J.stack.mem (show h'.objs.size ∈ frs X.stack from z)
          have q1 : h'.objs.size < r1.heap.objs.size := Heap.lt_size ho
          omega
        · intro v z
          rw [← hgo] at z
          cases z
    have gs0 : GS Y h'.objs.size go r1.heap.objs.size (ItO tp a) (none :: cs.map (fun p => σ.getD p.2 none)) r1.gens.size Pv 0
        { r1 with heap := h'.push go, gens := r1.gens.push (.fresh (.compStart (.GeneratorExp elt [⟨.Name x px, iter, [], 0⟩] scope gpos) 0 (.ref r1.heap.objs.size) .none (genEnv scope (cloFrom X.env.cells scope.names []) h3.objs.size cv builtinsNs X.env))), toks := n3 + 1 + 1 + 1 } := by
      refine ⟨H2, I1, ?_, ⟨ob, Heap.get?_push_of_some _ ia', ?_⟩, by simp, p0 H2 tbd⟩
      · rw [← hH2, upd_ne (Nat.ne_of_gt ltP)]
        exact J.hok.fresh (Nat.le_refl _)
      · rw [← hob]
        exact ⟨rfl, rfl⟩
    have nY : Y.N.Nodup := by rw [← hY]; exact nd
    have gl := gl_loop (X := Y) (B := X.A.in1.in1) (ga := h'.objs.size) (go := go) (ia := r1.heap.objs.size) (yl := a) (tp := tp) (σ0 := none :: cs.map (fun p => σ.getD p.2 none)) (g := r1.gens.size) (Pv := Pv) (Qf := fun H' => Q (.bl false) H')
      (xs := xs) (te := te) (elt := elt) (iter := iter) (x := x) (px := px) (pos := gpos) (scope := scope) (by rw [← hY]; rfl) room.hd isgo (by rw [← hY]; rfl) (by rw [← hY]; exact List.mem_singleton.mpr rfl) nY
      (by rw [← hY]; rfl) (by rw [← hY]; exact S.loc) (by rw [← hY]; exact S.co) rfl hel (fun e s z => by rw [← hY] at z; exact z) (fun i H p => by rw [← hY]; exact pl i H p) (fun i v H hv p => (show (none :: cs.map (fun p => σ.getD p.2 none) : L2.St).set 0 (some v) = some v :: cs.map (fun p => σ.getD p.2 none) from rfl) ▸ step i v H hv p)
    have eY : Y.env = genEnv scope (cloFrom X.env.cells scope.names []) h3.objs.size cv builtinsNs X.env := by rw [← hY]; rfl
    refine Calls.spliced_nil ?_
    refine call_function_tree F.kind_all F.plain_all F.entry_all (F.args_all1 _) ?_
    unfold Builtin.«all»
    refine wpAny_bind (m := oneArg "all" _) (wpAny_pure ?_)
    refine wpAny_bind ?_
    have isG : ∀ h : Heap, h.get? h'.objs.size = some go → h.IsGen h'.objs.size r1.gens.size := fun h e =>
      ⟨go, _, _, e, isgo, by rw [← hgo], by rw [← hgo]⟩
    refine wpAny_pyIter_gen (isG _ gaI) ?_
    refine wpAny_pure ⟨plainId_quiet F.plain_all_loop _, ?_⟩
    have pY : model X.prog X.w = model Y.prog Y.w := by rw [← hY]; rfl
    rw [pY]
    refine gl_all (X := Y) (A := X.A) (B := X.A.in1.in1) (g := r1.gens.size) (tp := tp) (yl := a) (ia := r1.heap.objs.size) (σ0 := none :: cs.map (fun p => σ.getD p.2 none)) (Pv := Pv) (Qf := fun H' => Q (.bl false) H') (xs := xs) room.hd rfl room.depth isG ?_ xs.length 0 _ _ (Nat.zero_add _) gs0 Array.getElem?_push_size ?_
    · intro b s' H3 I3 q
      have e3 : s'.os = r1.os := by
        have := I3.os
        rw [← hY] at this
        exact this
      have u3 : Un (frs X.stack) [r1.heap.objs.size] H2 H3 h3 s'.heap := by
        have := I3.base
        rw [← hY] at this
        exact this
      have ok3 : HOk X.prog X.w H3 s'.heap := by
        have := I3.hok
        rw [← hY] at this
        exact this
      have out := J4.call' (s' := s') e3 u3 ok3 I3.bare (fun b hb => by
        obtain rfl := List.mem_singleton.mp hb
        refine ⟨.inr J.sz, Nat.ne_of_gt J.lt, i2, fun p hp z => ?_⟩
        obtain ⟨e, _⟩ := J.pin p hp
        rw [z] at e
        exact absurd (Heap.lt_size e) (Nat.lt_irrefl _))
      refine ⟨.bl b, H3, out, rfl, ?_⟩
      cases b with
      | true => rw [if_pos rfl] at q; exact fin H3 q
      | false => rw [if_neg Bool.false_ne_true] at q; exact q
    · intro s2 z1 z2 z3 z4
      refine ⟨rfl, ?_⟩
      have gs2 := gs0.gens z1 z2 z3 z4
      have lp := gl xs.length 0 s2 s2 (by omega) (Nat.zero_le _) gs2
      have out := gl_start (X := Y) (B := X.A.in1.in1) room.hd (tp := tp) (yl := a) (i := 0) (ia := r1.heap.objs.size) (by
        rw [z1]
        refine ⟨ob, Heap.get?_push_of_some _ ia', ?_⟩
        rw [← hob]
        exact ⟨rfl, rfl⟩) lp
      rw [eY] at out
      exact out
  cases seek : codeAmong gpos tb.toList with
  | none =>
    refine wpAny_genexprCodeX code_ (hdN.code tabN htri) (hdN.tab tabN) seek fun c' h' n' ext ge lt hco' _ htab' _ => ?_
    obtain ⟨_, _, _, _, _, _, _, _, _, _, _, _, _, _, _, _, _, _, _, tri', _⟩ := hco'
    exact onward _ h' n' _ ext (Nat.le_trans ge (Nat.le_of_lt lt)) htab'.2 ⟨_, rfl⟩ tri'
  | some cv =>
    refine wpAny_genexprCode_hit code_ (hdN.code tabN htri) seek ?_
    exact onward cv (r1.heap.push ob) r1.toks tb (Heap.ExtBut.refl _ _) (Nat.le_refl _) tabN ⟨#[], by simp⟩ htri
end LL
namespace LL
open PySem PySem.Spec PyProof.Rows L2
/-! ### rows of stretches, as sets of numbers -/
abbrev Pr := Nat × Nat
def has (r : List Pr) (n : Nat) : Bool := r.any fun z => decide (z.1 ≤ n) && decide (n < z.2)
def TidyFrom : Nat → List Pr → Prop
  | _, [] => True
  | b, z :: r => b ≤ z.1 ∧ z.1 < z.2 ∧ z.2 ≤ 400 ∧ TidyFrom (z.2 + 1) r
instance : ∀ (r : List Pr) (b : Nat), Decidable (TidyFrom b r)
  | [], _ => isTrue trivial
  | z :: r, b =>
    have := instDecidableTidyFrom r (z.2 + 1)
    by unfold TidyFrom; infer_instance
def Tidy (r : List Pr) : Prop := TidyFrom 0 r
instance (r : List Pr) : Decidable (Tidy r) := by unfold Tidy; infer_instance
/-- each a stretch -/
def Valid (r : List Pr) : Prop := ∀ z ∈ r, z.1 < z.2 ∧ z.2 ≤ 400
theorem has_nil (n : Nat) : has [] n = false := rfl
theorem has_cons (z : Pr) (r : List Pr) (n : Nat) : has (z :: r) n = ((decide (z.1 ≤ n) && decide (n < z.2)) || has r n) := rfl
theorem has_app (r q : List Pr) (n : Nat) : has (r ++ q) n = (has r n || has q n) := List.any_append
theorem has_one (b e n : Nat) : has [(b, e)] n = (decide (b ≤ n) && decide (n < e)) := by rw [has_cons, has_nil, Bool.or_false]
theorem TidyFrom.valid : ∀ {r : List Pr} {b : Nat}, TidyFrom b r → Valid r
  | [], _, _, _, h => nomatch h
  | z :: r, b, ⟨_, h2, h3, h4⟩, y, h => by
    rcases List.mem_cons.mp h with rfl | h
    · exact ⟨h2, h3⟩
    · exact h4.valid y h
theorem TidyFrom.weak : ∀ {r : List Pr} {b c : Nat}, c ≤ b → TidyFrom b r → TidyFrom c r
  | [], _, _, _, _ => trivial
  | _ :: _, _, _, l, ⟨h1, h2⟩ => ⟨Nat.le_trans l h1, h2⟩
theorem TidyFrom.low : ∀ {r : List Pr} {b n : Nat}, TidyFrom b r → has r n = true → b ≤ n ∧ n < 400
  | [], _, _, _, h => nomatch h
  | z :: r, b, n, ⟨h1, h2, h3, h4⟩, h => by
    rw [has_cons] at h
    rcases Bool.or_eq_true_iff.mp h with h | h
    · have h := Bool.and_eq_true_iff.mp h
      have l := of_decide_eq_true h.1
      have u := of_decide_eq_true h.2
      omega
    · have := h4.low h
      omega
theorem TidyFrom.none {r : List Pr} {b n : Nat} (h : TidyFrom b r) (l : n < b) : has r n = false := by
  cases q : has r n with
  | false => rfl
  | true =>
    have := (h.low q).1
    omega
theorem has_lt {r : List Pr} {n : Nat} (h : Valid r) (q : has r n = true) : n < 400 := by
  obtain ⟨z, hz, q⟩ := List.any_eq_true.mp q
  have q := Bool.and_eq_true_iff.mp q
  have := of_decide_eq_true q.2
  have := (h z hz).2
  omega
/-- two tidy rows of the same numbers are one -/
theorem tidy_one : ∀ {r q : List Pr} {b c : Nat}, TidyFrom b r → TidyFrom c q → (∀ n, has r n = has q n) → r = q
  | [], [], _, _, _, _, _ => rfl
  | [], z :: q, _, c, _, ⟨h1, h2, _, _⟩, e => by
    have := e z.1
    rw [has_nil, has_cons, decide_eq_true (Nat.le_refl z.1), decide_eq_true h2] at this
    cases this
  | z :: r, [], b, _, ⟨h1, h2, _, _⟩, _, e => by
    have := e z.1
    rw [has_nil, has_cons, decide_eq_true (Nat.le_refl z.1), decide_eq_true h2] at this
    cases this
  | z :: r, y :: q, b, c, ⟨h1, h2, h3, h4⟩, ⟨g1, g2, g3, g4⟩, e => by
    have inZ : ∀ n, z.1 ≤ n → n < z.2 → has (z :: r) n = true := fun n l u => by rw [has_cons, decide_eq_true l, decide_eq_true u]; rfl
    have inY : ∀ n, y.1 ≤ n → n < y.2 → has (y :: q) n = true := fun n l u => by rw [has_cons, decide_eq_true l, decide_eq_true u]; rfl
    have lowZ : ∀ n, n < z.1 → has (z :: r) n = false := fun n l => TidyFrom.none (b := z.1) (r := z :: r) ⟨Nat.le_refl _, h2, h3, h4⟩ l
    have lowY : ∀ n, n < y.1 → has (y :: q) n = false := fun n l => TidyFrom.none (b := y.1) (r := y :: q) ⟨Nat.le_refl _, g2, g3, g4⟩ l
    have e1 : z.1 = y.1 := by
      rcases Nat.lt_trichotomy z.1 y.1 with l | l | l
      · have a := inZ z.1 (Nat.le_refl _) h2
        rw [e, lowY _ l] at a
        cases a
      · exact l
      · have a := inY y.1 (Nat.le_refl _) g2
        rw [← e, lowZ _ l] at a
        cases a
    have outZ : has (z :: r) z.2 = false := by
      rw [has_cons, decide_eq_false (Nat.lt_irrefl _), Bool.and_false, Bool.false_or]
      exact h4.none (Nat.lt_succ_self _)
    have outY : has (y :: q) y.2 = false := by
      rw [has_cons, decide_eq_false (Nat.lt_irrefl _), Bool.and_false, Bool.false_or]
      exact g4.none (Nat.lt_succ_self _)
    have e2 : z.2 = y.2 := by
      rcases Nat.lt_trichotomy z.2 y.2 with l | l | l
      · have a := inY z.2 (by omega) l
        rw [← e, outZ] at a
        cases a
      · exact l
      · have a := inZ y.2 (by omega) l
        rw [e, outY] at a
        cases a
    have e3 : z = y := Prod.ext e1 e2
    subst e3
    have e4 : r = q := tidy_one h4 g4 fun n => by
      by_cases l : n < z.2 + 1
      · rw [h4.none l, g4.none l]
      · have a := e n
        rw [has_cons, has_cons, decide_eq_false (show ¬ n < z.2 by omega), Bool.and_false, Bool.false_or, Bool.false_or] at a
        exact a
    rw [e4]
theorem tidy_eq {r q : List Pr} (h : Tidy r) (g : Tidy q) (e : ∀ n, has r n = has q n) : r = q := tidy_one h g e
theorem TidyFrom.app : ∀ {r : List Pr} {b x y : Nat}, TidyFrom b r → (∀ z ∈ r, z.2 < x) → b ≤ x → x < y → y ≤ 400 → TidyFrom b (r ++ [(x, y)])
  | [], _, _, _, _, _, l, l2, l3 => ⟨l, l2, l3, trivial⟩
  | z :: r, b, x, y, ⟨h1, h2, h3, h4⟩, h, l, l2, l3 => ⟨h1, h2, h3, h4.app (fun w hw => h w (List.mem_cons_of_mem _ hw)) (h z List.mem_cons_self) l2 l3⟩
theorem Tidy.app {r : List Pr} {x y : Nat} (h : Tidy r) (l : ∀ z ∈ r, z.2 < x) (l2 : x < y) (l3 : y ≤ 400) : Tidy (r ++ [(x, y)]) := TidyFrom.app h l (Nat.zero_le _) l2 l3
/-- the last stretch goes one further -/
theorem TidyFrom.grow : ∀ {r : List Pr} {b x y : Nat}, TidyFrom b (r ++ [(x, y)]) → y + 1 ≤ 400 → TidyFrom b (r ++ [(x, y + 1)])
  | [], _, _, _, ⟨h1, h2, _, _⟩, l => ⟨h1, Nat.lt_succ_of_lt h2, l, trivial⟩
  | z :: r, b, x, y, ⟨h1, h2, h3, h4⟩, l => ⟨h1, h2, h3, TidyFrom.grow (r := r) h4 l⟩
theorem TidyFrom.len : ∀ {r : List Pr} {b : Nat}, TidyFrom b r → 2 * r.length + b ≤ 402 ∨ r = []
  | [], _, _ => .inr rfl
  | z :: r, b, ⟨h1, h2, h3, h4⟩ => by
    rcases h4.len with k | rfl
    · left
      rw [List.length_cons]
      omega
    · left
      rw [List.length_cons, List.length_nil]
      omega
theorem Tidy.len {r : List Pr} (h : Tidy r) : r.length ≤ 201 := by
  rcases TidyFrom.len h with k | rfl
  · omega
  · exact Nat.zero_le _
/-! ### the same as whole numbers -/
def span (z : Pr) : Nat := 2 ^ z.2 - 2 ^ z.1
theorem span_bit {z : Pr} (h : z.1 ≤ z.2) (n : Nat) : (span z).testBit n = (decide (z.1 ≤ n) && decide (n < z.2)) := by
  obtain ⟨b, e⟩ := z
  obtain ⟨k, rfl⟩ := Nat.exists_eq_add_of_le (show b ≤ e from h)
  have e1 : span (b, b + k) = 2 ^ b * (2 ^ k - 1) := by
    show 2 ^ (b + k) - 2 ^ b = _
    rw [Nat.pow_add, Nat.mul_sub, Nat.mul_one]
  rw [e1, Nat.testBit_two_pow_mul, Nat.testBit_two_pow_sub_one]
  by_cases l : b ≤ n
  · rw [decide_eq_true (show n ≥ b from l), Bool.true_and, Bool.true_and, decide_eq_decide]
    show n - b < k ↔ n < b + k
    omega
  · rw [decide_eq_false (show ¬ n ≥ b from l)]
    rfl
def maskN (r : List Pr) : Nat := r.foldl (fun m z => m ||| span z) 0
theorem mask_fold : ∀ (r : List Pr) (m n : Nat), Valid r → (r.foldl (fun m z => m ||| span z) m).testBit n = (m.testBit n || has r n)
  | [], m, n, _ => by rw [has_nil, Bool.or_false]; rfl
  | z :: r, m, n, h => by
    rw [List.foldl_cons, mask_fold r _ n (fun y hy => h y (List.mem_cons_of_mem _ hy)), Nat.testBit_or, span_bit (Nat.le_of_lt (h z List.mem_cons_self).1), has_cons, Bool.or_assoc]
theorem mask_bit {r : List Pr} (h : Valid r) (n : Nat) : (maskN r).testBit n = has r n := by
  unfold maskN
  rw [mask_fold r 0 n h, Nat.zero_testBit, Bool.false_or]
theorem lt_of_bits {m k : Nat} (h : ∀ n, m.testBit n = true → n < k) : m < 2 ^ k := by
  apply Nat.lt_pow_two_of_testBit
  intro i hi
  cases q : m.testBit i with
  | false => rfl
  | true =>
    have := h i q
    omega
theorem mask_lt {r : List Pr} (h : Valid r) : maskN r < 2 ^ 400 := lt_of_bits fun n q => by
  rw [mask_bit h] at q
  exact has_lt h q
/-! ### the lowest figure -/
theorem odd_part : ∀ a : Nat, 0 < a → ∃ k j : Nat, a = 2 ^ k * (2 * j + 1) := by
  intro a
  induction a using Nat.strongRecOn with
  | ind a ih =>
    intro h
    by_cases o : a % 2 = 1
    · exact ⟨0, a / 2, by rw [Nat.pow_zero, Nat.one_mul]; omega⟩
    · obtain ⟨k, j, e⟩ := ih (a / 2) (by omega) (by omega)
      refine ⟨k + 1, j, ?_⟩
      rw [Nat.pow_succ, Nat.mul_comm (2 ^ k) 2, Nat.mul_assoc, ← e]
      omega
theorem and_pred (k j : Nat) : (2 ^ k * (2 * j + 1)) &&& (2 ^ k * (2 * j + 1) - 1) = 2 ^ k * (2 * j) := by
  have p := Nat.two_pow_pos k
  have e1 : 2 ^ k * (2 * j + 1) - 1 = 2 ^ k * (2 * j) + (2 ^ k - 1) := by
    rw [Nat.mul_add, Nat.mul_one]
    omega
  apply Nat.eq_of_testBit_eq
  intro n
  rw [Nat.testBit_and, Nat.testBit_two_pow_mul, Nat.testBit_two_pow_mul, e1, Nat.testBit_two_pow_mul_add _ (by omega), Nat.testBit_two_pow_sub_one]
  by_cases l : n < k
  · rw [decide_eq_false (show ¬ n ≥ k by omega)]
    rfl
  · rw [if_neg l, decide_eq_true (show n ≥ k by omega), Bool.true_and, Bool.true_and]
    cases q : n - k with
    | zero =>
      rw [Nat.testBit_zero, Nat.testBit_zero]
      have : decide (2 * j % 2 = 1) = false := decide_eq_false (by omega)
      rw [this, Bool.and_false]
    | succ i =>
      rw [Nat.testBit_succ, Nat.testBit_succ]
      have : (2 * j + 1) / 2 = 2 * j / 2 := by omega
      rw [this, Bool.and_self]
theorem bits_low (k j : Nat) : Builtin.bitAnd ((2 ^ k * (2 * j + 1) : Nat) : Int) (-((2 ^ k * (2 * j + 1) : Nat) : Int)) = ((2 ^ k : Nat) : Int) ∧
    Builtin.bitAnd (-((2 ^ k * (2 * j + 1) : Nat) : Int)) ((2 ^ k * (2 * j + 1) : Nat) : Int) = ((2 ^ k : Nat) : Int) := by
  have p := Nat.two_pow_pos k
  generalize ha : 2 ^ k * (2 * j + 1) = a
  have a0 : 0 < a := by rw [← ha]; exact Nat.mul_pos p (by omega)
  have low : a &&& (a - 1) = 2 ^ k * (2 * j) := by rw [← ha]; exact and_pred k j
  have sub : a = 2 ^ k * (2 * j) + 2 ^ k := by rw [← ha, Nat.mul_add, Nat.mul_one]
  have h1 : decide ((0 : Int) ≤ (a : Int)) = true := decide_eq_true (Int.natCast_nonneg a)
  have h2 : decide ((0 : Int) ≤ -(a : Int)) = false := decide_eq_false (by omega)
  have h3 : (Builtin.bitNot (-(a : Int))).toNat = a - 1 := by
    show (-(-(a : Int)) - 1).toNat = a - 1
    omega
  constructor
  · unfold Builtin.bitAnd
    simp only [h1, h2]
    rw [h3, Int.toNat_natCast, low]
    omega
  · unfold Builtin.bitAnd
    simp only [h1, h2]
    rw [h3, Int.toNat_natCast, low]
    omega
theorem bits_pow (k : Nat) : Builtin.Int.intBits ((2 ^ k : Nat) : Int) = k + 1 := by
  unfold Builtin.Int.intBits
  have p := Nat.two_pow_pos k
  have ne : ¬ (((2 ^ k : Nat) : Int) == 0) = true := by
    generalize 2 ^ k = x at p ⊢
    simp
    omega
  rw [if_neg ne]
  rw [Int.natAbs_natCast, Nat.log2_two_pow]
/-- i's lowest figure is worth 2 ^ k -/
def Low (i : Int) (k : Nat) : Prop := ∃ j : Nat, i = ((2 ^ k * (2 * j + 1) : Nat) : Int) ∨ i = -((2 ^ k * (2 * j + 1) : Nat) : Int)
theorem Low.bits {i : Int} {k : Nat} (h : Low i k) : Builtin.bitAnd i (-i) = ((2 ^ k : Nat) : Int) := by
  obtain ⟨j, rfl | rfl⟩ := h
  · exact (bits_low k j).1
  · rw [Int.neg_neg]
    exact (bits_low k j).2
/-- the first number of a mask, from e on -/
theorem low_of {m e : Nat} (h : m / 2 ^ e ≠ 0) : ∃ k, Low ((m / 2 ^ e : Nat) : Int) k ∧ m.testBit (e + k) = true ∧ ∀ n, e ≤ n → n < e + k → m.testBit n = false := by
  obtain ⟨k, j, q⟩ := odd_part (m / 2 ^ e) (Nat.pos_of_ne_zero h)
  have bit : ∀ n, m.testBit (e + n) = (2 ^ k * (2 * j + 1)).testBit n := fun n => by
    rw [← q, Nat.testBit_div_two_pow, Nat.add_comm]
  refine ⟨k, ⟨j, .inl (by rw [q])⟩, ?_, fun n l u => ?_⟩
  · rw [bit, Nat.testBit_two_pow_mul, Nat.sub_self, Nat.testBit_zero, decide_eq_true (Nat.le_refl k), decide_eq_true (by omega)]
    rfl
  · obtain ⟨d, rfl⟩ := Nat.exists_eq_add_of_le l
    rw [bit, Nat.testBit_two_pow_mul, decide_eq_false (by omega)]
    rfl
/-- how far a mask's numbers go on from b -/
theorem low_not {m b : Nat} (h : m.testBit b = true) : ∃ k, 0 < k ∧ Low (Builtin.bitNot ((m / 2 ^ b : Nat) : Int)) k ∧ m.testBit (b + k) = false ∧ ∀ n, b ≤ n → n < b + k → m.testBit n = true := by
  obtain ⟨k, j, q⟩ := odd_part (m / 2 ^ b + 1) (Nat.succ_pos _)
  have p := Nat.two_pow_pos k
  have q1 : m / 2 ^ b = 2 ^ k * (2 * j) + (2 ^ k - 1) := by
    rw [Nat.mul_add, Nat.mul_one] at q
    omega
  have bit : ∀ n, m.testBit (b + n) = if n < k then true else (2 * j).testBit (n - k) := fun n => by
    rw [Nat.add_comm, ← Nat.testBit_div_two_pow, q1, Nat.testBit_two_pow_mul_add _ (by omega), Nat.testBit_two_pow_sub_one]
    split
    · rename_i l
      exact decide_eq_true l
    · rfl
  have k0 : 0 < k := by
    have := bit 0
    rw [Nat.add_zero, h] at this
    by_cases z : 0 < k
    · exact z
    · rw [if_neg z, show 0 - k = 0 by omega, Nat.testBit_zero, decide_eq_false (by omega)] at this
      cases this
  refine ⟨k, k0, ⟨j, .inr ?_⟩, ?_, fun n l u => ?_⟩
  · rw [← q]
    show -((m / 2 ^ b : Nat) : Int) - 1 = _
    omega
  · rw [bit, if_neg (Nat.lt_irrefl k), Nat.sub_self, Nat.testBit_zero]
    exact decide_eq_false (by omega)
  · obtain ⟨d, rfl⟩ := Nat.exists_eq_add_of_le l
    rw [bit, if_pos (by omega)]
theorem no_more {m e : Nat} (h : m / 2 ^ e = 0) : ∀ n, e ≤ n → m.testBit n = false := fun n l => by
  obtain ⟨d, rfl⟩ := Nat.exists_eq_add_of_le l
  rw [Nat.add_comm, ← Nat.testBit_div_two_pow, h, Nat.zero_testBit]
theorem or_masks (a b : Nat) : Builtin.bitOr (a : Int) (b : Int) = ((a ||| b : Nat) : Int) := by
  rw [bitOr_nn (Int.natCast_nonneg a) (Int.natCast_nonneg b), Int.toNat_natCast, Int.toNat_natCast]
theorem and_masks (a b : Nat) : Builtin.bitAnd (a : Int) (b : Int) = ((a &&& b : Nat) : Int) := by
  unfold Builtin.bitAnd
  simp only [decide_eq_true (Int.natCast_nonneg a), decide_eq_true (Int.natCast_nonneg b)]
  rw [Int.toNat_natCast, Int.toNat_natCast]
theorem less_masks (a b : Nat) : Builtin.bitAnd (a : Int) (Builtin.bitNot (b : Int)) = ((a - (a &&& b) : Nat) : Int) := by
  have e : Builtin.bitNot (Builtin.bitNot (b : Int)) = (b : Int) := by
    show -(-(b : Int) - 1) - 1 = b
    omega
  have n : ¬ (0 : Int) ≤ Builtin.bitNot (b : Int) := by
    show ¬ (0 : Int) ≤ -(b : Int) - 1
    omega
  unfold Builtin.bitAnd
  simp only [decide_eq_true (Int.natCast_nonneg a), decide_eq_false n]
  rw [e, Int.toNat_natCast, Int.toNat_natCast]
  have le : a &&& b ≤ a := Nat.and_le_left
  omega
theorem less_bit (n : Nat) : ∀ a b : Nat, (a - (a &&& b)).testBit n = (a.testBit n && !b.testBit n) := by
  induction n with
  | zero =>
    intro a b
    have le : a &&& b ≤ a := Nat.and_le_left
    have lo : ((a &&& b) % 2 = 1) ↔ (a % 2 = 1 ∧ b % 2 = 1) := by
      have := congrArg (fun x : Bool => x = true) (Nat.testBit_and a b 0)
      simpa [Nat.testBit_zero] using this
    rw [Nat.testBit_zero, Nat.testBit_zero, Nat.testBit_zero]
    rcases Nat.mod_two_eq_zero_or_one a with ha | ha <;> rcases Nat.mod_two_eq_zero_or_one b with hb | hb <;>
      rcases Nat.mod_two_eq_zero_or_one (a &&& b) with hc | hc <;>
      first
        | (exfalso; rw [ha, hb, hc] at lo; revert lo; decide)
        | (rw [show (a - (a &&& b)) % 2 = (a % 2 + (a &&& b) % 2) % 2 by omega, ha, hb, hc]; decide)
  | succ n ih =>
    intro a b
    have le : a &&& b ≤ a := Nat.and_le_left
    have lo : ((a &&& b) % 2 = 1) ↔ (a % 2 = 1 ∧ b % 2 = 1) := by
      have := congrArg (fun x : Bool => x = true) (Nat.testBit_and a b 0)
      simpa [Nat.testBit_zero] using this
    have hi : (a &&& b) / 2 = a / 2 &&& b / 2 := Nat.and_div_two
    have le2 : a / 2 &&& b / 2 ≤ a / 2 := Nat.and_le_left
    rw [Nat.testBit_succ, Nat.testBit_succ, Nat.testBit_succ, ← ih]
    congr 1
    omega
end LL
namespace LL
open PySem PySem.Spec PyProof.Rows L2
/-- a def of the top: where it stands and how it is called -/
structure Dn (K : PySem.W.Frag) (mg : Str → Option Value) (x : Str) (st : Stmt) (ps : List Str) where
  f : Addr
  fd : FuncData
  m : mg x = some (.ref f)
  F : Fun K x x st f fd
  b : Binds K fd ps []

theorem pcall {X : Cx} {x : Str} {st : Stmt} {ps : List Str} {sp : Sp} {j k : Nat} {e : Expr} {es : List Expr} {t : TA} {p pos : Pos}
    (D : Dn X.K X.mg x st ps) (G : FnOk X.prog X.w X.K X.mg X.base CX0 j D.f D.fd ps sp) (hr : Room k X.A) (hjk : j ≤ k)
    (hg : Gl X x) (ha : PA X (e :: es) t) (hd : (x == ("__debug__" : Str)) = false := by decide)
    (he : starEach (e :: es) X.env = (false, eval e X.env) :: starEach es X.env := by rfl)
    (hp : (backTo pos (starEach es X.env)).any (·.1) = false := by rfl) :
    PE X (.Call (.Name x p) (e :: es) [] pos) (tCall sp [] E0 t) :=
  pe_call G (hr.mono hjk) hg D.m D.F.kp D.b .nil pass0 ha hd he hp
theorem pcall0 {X : Cx} {x : Str} {st : Stmt} {ps : List Str} {sp : Sp} {j k : Nat} {p pos : Pos}
    (D : Dn X.K X.mg x st ps) (G : FnOk X.prog X.w X.K X.mg X.base CX0 j D.f D.fd ps sp) (hr : Room k X.A) (hjk : j ≤ k)
    (hg : Gl X x) (hd : (x == ("__debug__" : Str)) = false := by decide) :
    PE X (.Call (.Name x p) [] [] pos) (tCall sp [] E0 tNil) :=
  pe_call0 G (hr.mono hjk) hg D.m D.F.kp D.b .nil pass0 hd

/-- what may be asked of: None, a bool, an int, a text, a list, a tuple, a dict -/
inductive Thing (K : PySem.W.Frag) (H : Hp) : V → Prop
  | non : Thing K H .non
  | bl (b : Bool) : Thing K H (.bl b)
  | int (i : Int) : Thing K H (.int i)
  | str (z : Str) : Thing K H (.str z)
  | lst {a : Addr} (h : TyX K H (.ref a) (.type "list")) : Thing K H (.ref a)
  | tup {a : Addr} (h : TyX K H (.ref a) (.type "tuple")) : Thing K H (.ref a)
  | dct {a : Addr} (h : TyX K H (.ref a) (.type "dict")) : Thing K H (.ref a)
def isInt : V → Bool
  | .int _ => true
  | _ => false
def isIntB : V → Bool
  | .int _ => true
  | .bl _ => true
  | _ => false
def isBl : V → Bool
  | .bl _ => true
  | _ => false
def isStr : V → Bool
  | .str _ => true
  | _ => false
/-- isinstance(x, T) for such a thing -/
theorem isi_int {K : PySem.W.Frag} {H : Hp} {x : V} {Q : VK} (h : Thing K H x) (q : Q (.bl (isIntB x)) H) : rIsi K [x, .ty "int"] H Q := by
  cases h with
  | non => exact ⟨_, _, _, _, _, rfl, .ty _, .base .non, kit_ty (r := false) (by decide +kernel), q⟩
  | bl b => exact ⟨_, _, _, _, _, rfl, .ty _, .base (.bl b), kit_ty (r := true) (by decide +kernel), q⟩
  | int i => exact ⟨_, _, _, _, _, rfl, .ty _, .base (.int i), kit_ty (r := true) (by decide +kernel), q⟩
  | str z => exact ⟨_, _, _, _, _, rfl, .ty _, .base (.str z), kit_ty (r := false) (by decide +kernel), q⟩
  | lst h => exact ⟨_, _, _, _, _, rfl, .ty _, h, kit_ty (r := false) (by decide +kernel), q⟩
  | tup h => exact ⟨_, _, _, _, _, rfl, .ty _, h, kit_ty (r := false) (by decide +kernel), q⟩
  | dct h => exact ⟨_, _, _, _, _, rfl, .ty _, h, kit_ty (r := false) (by decide +kernel), q⟩
theorem isi_bool {K : PySem.W.Frag} {H : Hp} {x : V} {Q : VK} (h : Thing K H x) (q : Q (.bl (isBl x)) H) : rIsi K [x, .ty "bool"] H Q := by
  cases h with
  | non => exact ⟨_, _, _, _, _, rfl, .ty _, .base .non, kit_ty (r := false) (by decide +kernel), q⟩
  | bl b => exact ⟨_, _, _, _, _, rfl, .ty _, .base (.bl b), kit_ty (r := true) (by decide +kernel), q⟩
  | int i => exact ⟨_, _, _, _, _, rfl, .ty _, .base (.int i), kit_ty (r := false) (by decide +kernel), q⟩
  | str z => exact ⟨_, _, _, _, _, rfl, .ty _, .base (.str z), kit_ty (r := false) (by decide +kernel), q⟩
  | lst h => exact ⟨_, _, _, _, _, rfl, .ty _, h, kit_ty (r := false) (by decide +kernel), q⟩
  | tup h => exact ⟨_, _, _, _, _, rfl, .ty _, h, kit_ty (r := false) (by decide +kernel), q⟩
  | dct h => exact ⟨_, _, _, _, _, rfl, .ty _, h, kit_ty (r := false) (by decide +kernel), q⟩
theorem isi_str {K : PySem.W.Frag} {H : Hp} {x : V} {Q : VK} (h : Thing K H x) (q : Q (.bl (isStr x)) H) : rIsi K [x, .ty "str"] H Q := by
  cases h with
  | non => exact ⟨_, _, _, _, _, rfl, .ty _, .base .non, kit_ty (r := false) (by decide +kernel), q⟩
  | bl b => exact ⟨_, _, _, _, _, rfl, .ty _, .base (.bl b), kit_ty (r := false) (by decide +kernel), q⟩
  | int i => exact ⟨_, _, _, _, _, rfl, .ty _, .base (.int i), kit_ty (r := false) (by decide +kernel), q⟩
  | str z => exact ⟨_, _, _, _, _, rfl, .ty _, .base (.str z), kit_ty (r := true) (by decide +kernel), q⟩
  | lst h => exact ⟨_, _, _, _, _, rfl, .ty _, h, kit_ty (r := false) (by decide +kernel), q⟩
  | tup h => exact ⟨_, _, _, _, _, rfl, .ty _, h, kit_ty (r := false) (by decide +kernel), q⟩
  | dct h => exact ⟨_, _, _, _, _, rfl, .ty _, h, kit_ty (r := false) (by decide +kernel), q⟩

section
variable {X : Cx}
theorem call_is_int : CallR X (.builtin "isinstance") (fun xs H Q => ∃ x, xs = [x, .ty "int"] ∧ Thing X.K H x ∧ Q (.bl (isIntB x)) H) := by
  intro pins s σ H xs us Q I r ⟨x, e, th, q⟩
  subst e
  exact call_isi pins s σ H _ us Q I r (isi_int th q)
theorem call_is_bool : CallR X (.builtin "isinstance") (fun xs H Q => ∃ x, xs = [x, .ty "bool"] ∧ Thing X.K H x ∧ Q (.bl (isBl x)) H) := by
  intro pins s σ H xs us Q I r ⟨x, e, th, q⟩
  subst e
  exact call_isi pins s σ H _ us Q I r (isi_bool th q)
theorem call_is_str : CallR X (.builtin "isinstance") (fun xs H Q => ∃ x, xs = [x, .ty "str"] ∧ Thing X.K H x ∧ Q (.bl (isStr x)) H) := by
  intro pins s σ H xs us Q I r ⟨x, e, th, q⟩
  subst e
  exact call_isi pins s σ H _ us Q I r (isi_str th q)
end

/-- a def whose code object is known -/
theorem okC {P : Program} {w : World} {K : PySem.W.Frag} {mg : Str → Option Value} {base : Heap} {x : Str} {st : Stmt} {f c : Addr}
    {fd : FuncData} {N ps : List Str} {k : Nat} {sp : Sp} (F : Fun K x x st f fd) (hc : fd.code = .ref c) (S : FnScope N ps (defScope st))
    (len : ∀ vs H Q E, sp vs H Q E → vs.length = ps.length)
    (body : ∀ (A : Around) (outer : List Env) (s : Shared) (H : Hp) (vs : List V) (Q : VK) (E : XK),
      Room k (A.deeper (envOfC x (defScope st) s.heap.objs.size f (.ref c))) → sp vs H Q E →
      ∃ t, PSs (cxOf CX0 P w K mg base N x (defScope st) f (.ref c) A outer s H E).nox (defBody st) t ∧
        t { nx := fun _ H' => Q .non H', rt := Q } (start N vs) H) : FnOk P w K mg base CX0 (k + 1) f fd ps sp := by
  obtain ⟨c1, d1, k1, doc, pm, an, cd, c2, sl, rfl, look, isCode⟩ := F.ex
  have hcd : cd = .ref c := hc
  subst hcd
  exact fn_of look isCode S len fun A outer s H vs Q E room want =>
    let ⟨t, h, q⟩ := body A outer s H vs Q E room want
    ⟨t, h.nox, q⟩

/-- a def's facts, put together -/
def dn_mk {x : Str} {st : Stmt} {ps : List Str} {K : PySem.W.Frag} {h : Heap} {mg : Str → Option Value} {f : Addr} {oc : Value} {od an : Option Addr} {sl : Array (Option Value)} {kV doc pm cdv ct : Value}
    (X : K.In h) (G : h.Ns mainGlobals mg) (a : PySem.W.nsIn K mainGlobals x = some (some (.ref f)))
    (l : K.lookup f = some ⟨oc, od, .func (PySem.W.fnOf x x (defArgs st) (defBody st) (defScope st) .none kV doc pm an cdv ct), sl⟩)
    (c : PySem.W.codeIn K cdv x = true) (k : PySem.W.keepIn K (.ref f) = true)
    (b : ∀ (kV doc pm : Value) (an : Option Addr) (cdv ct : Value) (us : List Value), us.length = ps.length → bindArgs (PySem.W.fnOf x x (defArgs st) (defBody st) (defScope st) .none kV doc pm an cdv ct) ⟨us, []⟩ = pure (ps.zip us)) :
    Dn K mg x st ps := ⟨f, _, PySem.W.mg_of X G a, fun_mk l c k, (fun_mk l c k).binds b⟩
theorem own_mk {K : PySem.W.Frag} {h : Heap} {mg : Str → Option Value} {nm : Str} (own : ∀ f, mg nm = some (.ref f) → LamX.OwnTab K f h)
    {f c tb : Addr} {o : Obj} {fd : FuncData} {e : Value} {dd : Option Addr} {vs : Array Value} {sl : Array (Option Value)}
    (m : mg nm = some (.ref f)) (l0 : K.lookup f = some o) (d : o.data = .func fd) (cc : fd.code = .ref c)
    (l1 : K.lookup c = some ⟨e, dd, .fields vs, sl⟩) (v : vs[11]? = some (.ref tb)) : h.get? tb = some { cls := .none, data := .fields #[] } :=
  own f m c tb o fd e dd vs sl l0 d cc l1 v
theorem code_mk {K : PySem.W.Frag} {h : Heap} (X : K.In h) {c tb : Addr} {dd : Option Addr} {vs : Array Value} {sl : Array (Option Value)} {file : Str} {tf tg tt : Tok} {flags text : Int} {inF : Bool}
    (lk : K.lookup c = some ⟨.type "code", dd, .fields vs, sl⟩) (v : vs[11]? = some (.ref tb)) (v1 : vs.getD 11 .none = .ref tb) (v2 : vs.getD 18 .none = .str file tf)
    (v3 : vs.getD 7 .none = .int flags tg) (v4 : vs.getD 9 .none = .bool inF) (v5 : vs.getD 10 .none = .int text tt) (n : c ≠ tb) : PySem.W.CodeHd h c tb :=
  ⟨_, vs, file, tf, flags, tg, inF, text, tt, X _ _ lk, rfl, rfl, v, v1, v2, v3, v4, v5, n⟩

/-- such a def's call, where no repr is under way -/
theorem pcallG {X : Cx} {x : Str} {st : Stmt} {ps : List Str} {sp : Sp} {j k : Nat} {e : Expr} {es : List Expr} {t : TA} {p pos : Pos}
    (D : Dn X.K X.mg x st ps) (G : FnG X.prog X.w X.K X.mg X.base j D.f D.fd ps sp) (guard : X.A.guards = some []) (hr : Room k X.A) (hjk : j ≤ k)
    (hg : Gl X x) (ha : PA X (e :: es) t) (hd : (x == ("__debug__" : Str)) = false := by decide)
    (he : starEach (e :: es) X.env = (false, eval e X.env) :: starEach es X.env := by rfl)
    (hp : (backTo pos (starEach es X.env)).any (·.1) = false := by rfl) :
    PE X (.Call (.Name x p) (e :: es) [] pos) (tCall sp [] E0 t) :=
  pe_callG G guard (hr.mono hjk) hg D.m D.F.kp D.b ha hd he hp
theorem ix_listK {X : Cx} {K : PySem.W.Frag} (h : X.K = K) : IxR X (rIxL K) := by
  rw [← h]
  exact ix_list
theorem ix_tupK {X : Cx} {K : PySem.W.Frag} (h : X.K = K) : IxR X (rIxT K) := by
  rw [← h]
  exact ix_tup
/-- a value's truth, as a test -/
def tTru (K : PySem.W.Frag) (ta : TE) : TT := fun σ H Q => ta σ H fun x H' => ∃ k, TruV K x H' k ∧ Q k H'
theorem pt_tru {X : Cx} {a : Expr} {ta : TE} (ha : PE X a ta) (he : ∀ whole, isTrue a X.env whole = (do let v ← whole; standAt a.pos; holding [v] (truthy v)) := by intro _; rfl) : PT X a (tTru X.K ta) := pt_truth ha he
/-- isinstance(x, tuple) -/
inductive IsTup (K : PySem.W.Frag) (H : Hp) : V → Bool → Prop
  | non : IsTup K H .non false
  | bl (b : Bool) : IsTup K H (.bl b) false
  | int (i : Int) : IsTup K H (.int i) false
  | str (z : Str) : IsTup K H (.str z) false
  | lst {a : Addr} (h : TyX K H (.ref a) (.type "list")) : IsTup K H (.ref a) false
  | tup {a : Addr} (h : TyX K H (.ref a) (.type "tuple")) : IsTup K H (.ref a) true
  | dct {a : Addr} (h : TyX K H (.ref a) (.type "dict")) : IsTup K H (.ref a) false
theorem isi_tup {K : PySem.W.Frag} {H : Hp} {x : V} {b : Bool} {Q : VK} (h : IsTup K H x b) (q : Q (.bl b) H) : rIsi K [x, .ty "tuple"] H Q := by
  cases h with
  | non => exact ⟨_, _, _, _, _, rfl, .ty _, .base .non, kit_ty (r := false) (by decide +kernel), q⟩
  | bl b => exact ⟨_, _, _, _, _, rfl, .ty _, .base (.bl b), kit_ty (r := false) (by decide +kernel), q⟩
  | int i => exact ⟨_, _, _, _, _, rfl, .ty _, .base (.int i), kit_ty (r := false) (by decide +kernel), q⟩
  | str z => exact ⟨_, _, _, _, _, rfl, .ty _, .base (.str z), kit_ty (r := false) (by decide +kernel), q⟩
  | lst h => exact ⟨_, _, _, _, _, rfl, .ty _, h, kit_ty (r := false) (by decide +kernel), q⟩
  | tup h => exact ⟨_, _, _, _, _, rfl, .ty _, h, kit_ty (r := true) (by decide +kernel), q⟩
  | dct h => exact ⟨_, _, _, _, _, rfl, .ty _, h, kit_ty (r := false) (by decide +kernel), q⟩
/-- isinstance(x, list) -/
inductive IsLst (K : PySem.W.Frag) (H : Hp) : V → Bool → Prop
  | non : IsLst K H .non false
  | bl (b : Bool) : IsLst K H (.bl b) false
  | int (i : Int) : IsLst K H (.int i) false
  | str (z : Str) : IsLst K H (.str z) false
  | lst {a : Addr} (h : TyX K H (.ref a) (.type "list")) : IsLst K H (.ref a) true
  | tup {a : Addr} (h : TyX K H (.ref a) (.type "tuple")) : IsLst K H (.ref a) false
  | dct {a : Addr} (h : TyX K H (.ref a) (.type "dict")) : IsLst K H (.ref a) false
theorem isi_lst {K : PySem.W.Frag} {H : Hp} {x : V} {b : Bool} {Q : VK} (h : IsLst K H x b) (q : Q (.bl b) H) : rIsi K [x, .ty "list"] H Q := by
  cases h with
  | non => exact ⟨_, _, _, _, _, rfl, .ty _, .base .non, kit_ty (r := false) (by decide +kernel), q⟩
  | bl b => exact ⟨_, _, _, _, _, rfl, .ty _, .base (.bl b), kit_ty (r := false) (by decide +kernel), q⟩
  | int i => exact ⟨_, _, _, _, _, rfl, .ty _, .base (.int i), kit_ty (r := false) (by decide +kernel), q⟩
  | str z => exact ⟨_, _, _, _, _, rfl, .ty _, .base (.str z), kit_ty (r := false) (by decide +kernel), q⟩
  | lst h => exact ⟨_, _, _, _, _, rfl, .ty _, h, kit_ty (r := true) (by decide +kernel), q⟩
  | tup h => exact ⟨_, _, _, _, _, rfl, .ty _, h, kit_ty (r := false) (by decide +kernel), q⟩
  | dct h => exact ⟨_, _, _, _, _, rfl, .ty _, h, kit_ty (r := false) (by decide +kernel), q⟩
section
variable {X : Cx}
theorem call_is_tuple : CallR X (.builtin "isinstance") (fun xs H Q => ∃ x b, xs = [x, .ty "tuple"] ∧ IsTup X.K H x b ∧ Q (.bl b) H) := by
  intro pins s σ H xs us Q I r ⟨x, b, e, th, q⟩
  subst e
  exact call_isi pins s σ H _ us Q I r (isi_tup th q)
theorem call_is_list : CallR X (.builtin "isinstance") (fun xs H Q => ∃ x b, xs = [x, .ty "list"] ∧ IsLst X.K H x b ∧ Q (.bl b) H) := by
  intro pins s σ H xs us Q I r ⟨x, b, e, th, q⟩
  subst e
  exact call_isi pins s σ H _ us Q I r (isi_lst th q)
theorem tyX_l {K : PySem.W.Frag} {H : Hp} {a : Addr} {xs : List V} (h : H a = some (.lst xs)) : TyX K H (.ref a) (.type "list") := .base (.lst h)
theorem tyX_t {K : PySem.W.Frag} {H : Hp} {a : Addr} {xs : List V} (h : H a = some (.tup xs)) : TyX K H (.ref a) (.type "tuple") := .base (.tup h)
end
/-! ### what is kept -/
/-- all that stood is kept, but the table at P -/
structure Nw (P : Addr) (H H' : Hp) : Prop where
  was : GxR.TabG H P
  tab : GxR.TabG H' P
  old : ∀ b o, b ≠ P → H b = some o → H' b = some o
theorem Nw.refl {P : Addr} {H : Hp} (h : GxR.TabG H P) : Nw P H H := ⟨h, h, fun _ _ _ e => e⟩
theorem Nw.trans {P : Addr} {H H1 H2 : Hp} (x : Nw P H H1) (y : Nw P H1 H2) : Nw P H H2 := ⟨x.was, y.tab, fun b o n e => y.old b o n (x.old b o n e)⟩
theorem Nw.of {P : Addr} {H H' : Hp} (h : GxR.TabG H P) (t : GxR.Tabbed P H H') : Nw P H H' := ⟨h, t.1, fun b o n e => by rw [t.2 b n]; exact e⟩
theorem tab_ne {P a : Addr} {H : Hp} {o : HO} (h : GxR.TabG H P) (e : H a = some o) (n : ∀ q, o ≠ .tbl q) : a ≠ P := fun z => by
  obtain ⟨ps, e2, _⟩ := h
  rw [z, e2] at e
  exact n ps (Option.some.inj e).symm
theorem tab_free {P a : Addr} {H : Hp} (h : GxR.TabG H P) (e : H a = none) : P ≠ a := fun z => by
  obtain ⟨ps, e2, _⟩ := h
  rw [z, e] at e2
  cases e2
theorem tab_upd {P a : Addr} {H : Hp} {o : HO} (h : GxR.TabG H P) (n : P ≠ a) : GxR.TabG (upd H a o) P := by
  obtain ⟨ps, e2, t⟩ := h
  exact ⟨ps, by rw [upd_ne n]; exact e2, t⟩
/-- a new object more -/
theorem Nw.new {P p : Addr} {H H1 : Hp} {u : HO} (x : Nw P H H1) (hp : H1 p = none) : Nw P H (L2.upd H1 p u) :=
  ⟨x.was, tab_upd x.tab (tab_free x.tab hp), fun c v n q => by rw [upd_ne (ne_of_none (x.old c v n q) hp)]; exact x.old c v n q⟩
/-- an object that is new since H is changed -/
theorem Nw.put {P p : Addr} {H H1 : Hp} {u o : HO} (x : Nw P H H1) (hp : H p = none) (ho : H1 p = some o) (n : ∀ q, o ≠ .tbl q) : Nw P H (L2.upd H1 p u) :=
  ⟨x.was, tab_upd x.tab (fun z => tab_ne x.tab ho n z.symm), fun c v m q => by rw [upd_ne (ne_of_none q hp)]; exact x.old c v m q⟩
theorem Nw.lst {P a : Addr} {H H' : Hp} {xs : List V} (x : Nw P H H') (e : H a = some (.lst xs)) : H' a = some (.lst xs) := x.old _ _ (tab_ne x.was e (fun q z => by cases z)) e
theorem Nw.tup {P a : Addr} {H H' : Hp} {xs : List V} (x : Nw P H H') (e : H a = some (.tup xs)) : H' a = some (.tup xs) := x.old _ _ (tab_ne x.was e (fun q z => by cases z)) e
theorem Nw.free {P a : Addr} {H H' : Hp} (x : Nw P H H') (e : H' a = none) : H a = none := by
  cases q : H a with
  | none => rfl
  | some o =>
    by_cases z : a = P
    · obtain ⟨ps, e2, _⟩ := x.tab
      rw [z, e2] at e
      cases e
    · rw [x.old _ _ z q] at e
      cases e
/-- what is no table is kept -/
def Keep (H H' : Hp) : Prop := ∀ b o, (∀ q, o ≠ .tbl q) → H b = some o → H' b = some o
theorem Nw.keep {P : Addr} {H H' : Hp} (x : Nw P H H') : Keep H H' := fun b o n e => x.old b o (tab_ne x.was e n) e
theorem tyOf_keep {K : PySem.W.Frag} {H H' : Hp} {x : V} {t : Value} (k : Keep H H') (h : TyOf K H x t) : TyOf K H' x t := by
  cases h with
  | non => exact .non
  | bl b => exact .bl b
  | int i => exact .int i
  | str z => exact .str z
  | flt z => exact .flt z
  | lst e => exact .lst (k _ _ (fun q z => by cases z) e)
  | frz e => exact .frz (k _ _ (fun q z => by cases z) e)
  | tup e => exact .tup (k _ _ (fun q z => by cases z) e)
  | dK e => exact .dK (k _ _ (fun q z => by cases z) e)
  | dT e => exact .dT (k _ _ (fun q z => by cases z) e)
  | ins e a b c d f => exact .ins (k _ _ (fun q z => by cases z) e) a b c d f
theorem tyX_keep {K : PySem.W.Frag} {H H' : Hp} {x : V} {t : Value} (k : Keep H H') (h : TyX K H x t) : TyX K H' x t := by
  cases h with
  | base h => exact .base (tyOf_keep k h)
  | byt b => exact .byt b
  | set e => exact .set (k _ _ (fun q z => by cases z) e)
  | kList e c => exact .kList e c
  | kTuple e c => exact .kTuple e c
  | kDict e c => exact .kDict e c
  | fTuple e => exact .fTuple (k _ _ (fun q z => by cases z) e)
  | fDict e => exact .fDict (k _ _ (fun q z => by cases z) e)
theorem Thing.keep {K : PySem.W.Frag} {H H' : Hp} {x : V} (k : Keep H H') (h : Thing K H x) : Thing K H' x := by
  cases h with
  | non => exact .non
  | bl b => exact .bl b
  | int i => exact .int i
  | str z => exact .str z
  | lst h => exact .lst (tyX_keep k h)
  | tup h => exact .tup (tyX_keep k h)
  | dct h => exact .dct (tyX_keep k h)
theorem IsTup.keep {K : PySem.W.Frag} {H H' : Hp} {x : V} {b : Bool} (k : Keep H H') (h : IsTup K H x b) : IsTup K H' x b := by
  cases h with
  | non => exact .non
  | bl b => exact .bl b
  | int i => exact .int i
  | str z => exact .str z
  | lst h => exact .lst (tyX_keep k h)
  | tup h => exact .tup (tyX_keep k h)
  | dct h => exact .dct (tyX_keep k h)
theorem IsLst.keep {K : PySem.W.Frag} {H H' : Hp} {x : V} {b : Bool} (k : Keep H H') (h : IsLst K H x b) : IsLst K H' x b := by
  cases h with
  | non => exact .non
  | bl b => exact .bl b
  | int i => exact .int i
  | str z => exact .str z
  | lst h => exact .lst (tyX_keep k h)
  | tup h => exact .tup (tyX_keep k h)
  | dct h => exact .dct (tyX_keep k h)
/-! ### a row of stretches in the heap -/
inductive PrsAt (H : Hp) : List Addr → List Pr → Prop
  | nil : PrsAt H [] []
  | cons {q : Addr} {qs : List Addr} {z : Pr} {r : List Pr} (h : H q = some (.tup [.int (z.1 : Int), .int (z.2 : Int)])) (t : PrsAt H qs r) : PrsAt H (q :: qs) (z :: r)
theorem PrsAt.len {H : Hp} {qs : List Addr} {r : List Pr} (h : PrsAt H qs r) : qs.length = r.length := by
  induction h with
  | nil => rfl
  | cons _ _ ih => rw [List.length_cons, List.length_cons, ih]
theorem PrsAt.app {H : Hp} {qs ps : List Addr} {r q : List Pr} (h : PrsAt H qs r) (g : PrsAt H ps q) : PrsAt H (qs ++ ps) (r ++ q) := by
  induction h with
  | nil => exact g
  | cons a _ ih => exact .cons a ih
theorem PrsAt.get {H : Hp} {qs : List Addr} {r : List Pr} (h : PrsAt H qs r) {i : Nat} {q : Addr} (e : qs[i]? = some q) : ∃ z, r[i]? = some z ∧ H q = some (.tup [.int (z.1 : Int), .int (z.2 : Int)]) := by
  induction h generalizing i with
  | nil => cases e
  | cons a _ ih =>
    cases i with
    | zero =>
      cases e
      exact ⟨_, rfl, a⟩
    | succ i => exact ih e
theorem PrsAt.put {H H' : Hp} {qs : List Addr} {r : List Pr} (h : PrsAt H qs r) (k : ∀ q xs, H q = some (.tup xs) → H' q = some (.tup xs)) : PrsAt H' qs r := by
  induction h with
  | nil => exact .nil
  | cons a _ ih => exact .cons (k _ _ a) ih
/-- at a stands a list of these stretches -/
def RowAt (H : Hp) (a : Addr) (r : List Pr) : Prop := ∃ qs : List Addr, H a = some (.lst (qs.map V.ref)) ∧ PrsAt H qs r
theorem RowAt.nw {P a : Addr} {H H' : Hp} {r : List Pr} (h : RowAt H a r) (x : Nw P H H') : RowAt H' a r := by
  obtain ⟨qs, e, p⟩ := h
  exact ⟨qs, x.lst e, p.put fun q xs e => x.tup e⟩
theorem RowAt.ne {P a : Addr} {H : Hp} {r : List Pr} (h : RowAt H a r) (t : GxR.TabG H P) : a ≠ P := by
  obtain ⟨qs, e, p⟩ := h
  exact tab_ne t e (fun q z => by cases z)
def prDat (z : Pr) : PyData := .tuple [.int (z.1 : Int), .int (z.2 : Int)]
def rowDat (r : List Pr) : PyData := .list (r.map prDat)
theorem PrsAt.dp {K : PySem.W.Frag} {H : Hp} {qs : List Addr} {r : List Pr} (h : PrsAt H qs r) : DpAll K H (qs.map V.ref) (r.map prDat) := by
  induction h with
  | nil => exact .nil
  | cons a _ ih => exact .cons (.tup (SqT.of a) (.cons (.int _) (.cons (.int _) .nil))) ih
theorem RowAt.dp {K : PySem.W.Frag} {H : Hp} {a : Addr} {r : List Pr} (h : RowAt H a r) : Dp K H (.ref a) (rowDat r) := by
  obtain ⟨qs, e, p⟩ := h
  exact .lst (SqL.of e) p.dp
end LL
namespace LL
open PySem PySem.Spec PyProof.Rows L2
def within : V → Int → Int → Bool
  | .int i, lo, hi => decide (lo ≤ i) && decide (i ≤ hi)
  | _, _, _ => false
def spanV : V → V → Nat → Bool
  | .int b, z, most => within (.int b) 0 most && within z (b + 1) most
  | _, _, _ => false
/-- whether a thing is a stretch -/
inductive StB (K : PySem.W.Frag) (H : Hp) : V → Bool → Prop
  | other {x : V} (h : IsTup K H x false) : StB K H x false
  | wrong {q : Addr} {xs : List V} (h : H q = some (.tup xs)) (n : xs.length ≠ 2) : StB K H (.ref q) false
  | pair {q : Addr} {y z : V} (h : H q = some (.tup [y, z])) (ty : Thing K H y) (tz : Thing K H z) : StB K H (.ref q) (spanV y z 400)
theorem atT0 (x : V) (xs : List V) : atI (x :: xs) 0 = some x := atI_nat (j := 0) rfl
theorem atT1 (x y : V) (xs : List V) : atI (x :: y :: xs) 1 = some y := atI_nat (j := 1) rfl
/-! ### rows as data -/
theorem prDat_eqv (z w : Pr) : PyData.eqv (prDat z) (prDat w) = decide (z = w) := by
  obtain ⟨a, b⟩ := z
  obtain ⟨a', b'⟩ := w
  have e : PyData.eqv (prDat (a, b)) (prDat (a', b')) = (((a : Int) == (a' : Int)) && (((b : Int) == (b' : Int)) && true)) := by simp only [prDat, PyData.eqv, PyData.eqvAll]
  rw [e]
  by_cases h : ((a, b) : Pr) = (a', b')
  · cases h
    simp
  · rw [decide_eq_false h]
    by_cases h1 : a = a'
    · by_cases h2 : b = b'
      · exact absurd (by rw [h1, h2]) h
      · have q : ((b : Int) == (b' : Int)) = false := beq_eq_false_iff_ne.mpr (by omega)
        rw [q, Bool.false_and, Bool.and_false]
    · have q : ((a : Int) == (a' : Int)) = false := beq_eq_false_iff_ne.mpr (by omega)
      rw [q, Bool.false_and]
theorem prDats_eqv : ∀ r q : List Pr, PyData.eqvAll (r.map prDat) (q.map prDat) = decide (r = q)
  | [], [] => by simp [PyData.eqvAll]
  | [], _ :: _ => by simp [PyData.eqvAll]
  | _ :: _, [] => by simp [PyData.eqvAll]
  | z :: r, w :: q => by
    have ih := prDats_eqv r q
    simp only [List.map_cons, PyData.eqvAll]
    rw [ih, prDat_eqv, Bool.eq_iff_iff]
    simp
theorem rowDat_eqv (r q : List Pr) : PyData.eqv (rowDat r) (rowDat q) = decide (r = q) := by
  simp only [rowDat, PyData.eqv]
  exact prDats_eqv r q
theorem prDats_lay : ∀ r : List Pr, PyData.canLayAll0 (r.map prDat) = true
  | [] => by simp [PyData.canLayAll0]
  | z :: r => by simp [PyData.canLayAll0, PyData.canLay0, prDat, prDats_lay r]
theorem prDats_depth : ∀ r : List Pr, PyData.depthAll (r.map prDat) ≤ 1
  | [] => by simp [PyData.depthAll]
  | z :: r => by
    have h1 := prDats_depth r
    simp only [List.map_cons, PyData.depthAll, prDat, PyData.depth]
    omega
theorem rowDat_shaped (r : List Pr) : SeqAt.shaped (rowDat r) = true := by
  have h1 := prDats_depth r
  have h2 : PyData.depth (rowDat r) ≤ 64 := by
    simp only [rowDat, PyData.depth]
    omega
  show (PyData.canLay0 (rowDat r) && decide (PyData.depth (rowDat r) ≤ 64)) = true
  rw [Bool.and_eq_true]
  exact ⟨by simp only [rowDat, PyData.canLay0]; exact prDats_lay r, decide_eq_true h2⟩
/-- all items of a row are stretches -/
theorem spanV_pr {z : Pr} (h : z.1 < z.2 ∧ z.2 ≤ 400) : spanV (.int (z.1 : Int)) (.int (z.2 : Int)) 400 = true := by
  simp only [spanV, within, Bool.and_eq_true, decide_eq_true_eq]
  omega
inductive StBs (K : PySem.W.Frag) (H : Hp) : List V → List Bool → Prop
  | nil : StBs K H [] []
  | cons {x : V} {b : Bool} {xs : List V} {bs : List Bool} (h : StB K H x b) (t : StBs K H xs bs) : StBs K H (x :: xs) (b :: bs)
theorem StBs.get {K : PySem.W.Frag} {H : Hp} {xs : List V} {bs : List Bool} (h : StBs K H xs bs) {i : Nat} {x : V} (e : xs[i]? = some x) : ∃ b, bs[i]? = some b ∧ StB K H x b := by
  induction h generalizing i with
  | nil => cases e
  | cons a _ ih =>
    cases i with
    | zero =>
      cases e
      exact ⟨_, rfl, a⟩
    | succ i => exact ih e
theorem StBs.len {K : PySem.W.Frag} {H : Hp} {xs : List V} {bs : List Bool} (h : StBs K H xs bs) : xs.length = bs.length := by
  induction h with
  | nil => rfl
  | cons _ _ ih => rw [List.length_cons, List.length_cons, ih]
theorem StB.pr {K : PySem.W.Frag} {H : Hp} {q : Addr} {z : Pr} (h : H q = some (.tup [.int (z.1 : Int), .int (z.2 : Int)])) (v : z.1 < z.2 ∧ z.2 ≤ 400) : StB K H (.ref q) true := by
  have x := StB.pair (K := K) h (.int _) (.int _)
  rw [spanV_pr v] at x
  exact x
theorem PrsAt.sts {K : PySem.W.Frag} {H : Hp} {qs : List Addr} {r : List Pr} (h : PrsAt H qs r) (v : Valid r) : StBs K H (qs.map V.ref) (r.map fun _ => true) := by
  induction h with
  | nil => exact .nil
  | cons a _ ih => exact .cons (StB.pr a (v _ List.mem_cons_self)) (ih fun z hz => v z (List.mem_cons_of_mem _ hz))
/-- a thing that is asked whether it is a tidy row -/
inductive RunsB (K : PySem.W.Frag) (H : Hp) : V → Bool → Prop
  | other {x : V} (h : IsLst K H x false) : RunsB K H x false
  | wrong {a : Addr} {xs : List V} {bs : List Bool} (h : H a = some (.lst xs)) (s : StBs K H xs bs) (n : bs.all id = false) : RunsB K H (.ref a) false
  | row {a : Addr} {r : List Pr} (h : RowAt H a r) (v : Valid r) : RunsB K H (.ref a) (decide (Tidy r))
theorem StB.keep {K : PySem.W.Frag} {H H' : Hp} {x : V} {b : Bool} (k : Keep H H') (h : StB K H x b) : StB K H' x b := by
  cases h with
  | other h => exact .other (h.keep k)
  | wrong h e => exact .wrong (k _ _ (fun q z => by cases z) h) e
  | pair h a b => exact .pair (k _ _ (fun q z => by cases z) h) (a.keep k) (b.keep k)
theorem StBs.keep {K : PySem.W.Frag} {H H' : Hp} {xs : List V} {bs : List Bool} (k : Keep H H') (h : StBs K H xs bs) : StBs K H' xs bs := by
  induction h with
  | nil => exact .nil
  | cons a _ ih => exact .cons (a.keep k) ih
theorem RowAt.keep {a : Addr} {H H' : Hp} {r : List Pr} (k : Keep H H') (h : RowAt H a r) : RowAt H' a r := by
  obtain ⟨qs, e, p⟩ := h
  exact ⟨qs, k _ _ (fun q z => by cases z) e, p.put fun q xs e => k _ _ (fun q z => by cases z) e⟩
theorem PrsAt.snoc {H : Hp} : ∀ {qs : List Addr} {r : List Pr} {z : Pr}, PrsAt H qs (r ++ [z]) → ∃ ps q, qs = ps ++ [q] ∧ PrsAt H ps r ∧ H q = some (.tup [.int (z.1 : Int), .int (z.2 : Int)])
  | [], [], _, h => nomatch h
  | [], _ :: _, _, h => nomatch h
  | q :: qs, [], z, h => by
    cases h with
    | cons a t =>
      cases t
      exact ⟨[], q, rfl, .nil, a⟩
  | q :: qs, y :: r, z, h => by
    cases h with
    | cons a t =>
      obtain ⟨ps, q', rfl, p, e⟩ := PrsAt.snoc t
      exact ⟨q :: ps, q', rfl, .cons a p, e⟩
theorem has_below {r : List Pr} {i : Nat} (v : Valid r) (h : ∀ n, has r n = true → n < i) : ∀ z ∈ r, z.2 ≤ i := fun z hz => by
  obtain ⟨a, b⟩ := v z hz
  have : has r (z.2 - 1) = true := List.any_eq_true.mpr ⟨z, hz, by rw [decide_eq_true (show z.1 ≤ z.2 - 1 by omega), decide_eq_true (show z.2 - 1 < z.2 by omega)]; rfl⟩
  have := h _ this
  omega
theorem snoc_of {r : List Pr} (h : r ≠ []) : ∃ q z, r = q ++ [z] := ⟨r.dropLast, r.getLast h, (List.dropLast_concat_getLast h).symm⟩
theorem TidyFrom.last : ∀ {r : List Pr} {b : Nat} {z y : Pr}, TidyFrom b (r ++ [z]) → y ∈ r ++ [z] → y.2 ≤ z.2
  | [], _, z, y, _, h => by
    rw [List.mem_singleton.mp h]
    exact Nat.le_refl _
  | w :: r, b, z, y, ⟨h1, h2, h3, h4⟩, h => by
    rcases List.mem_cons.mp h with rfl | h
    · obtain ⟨v1, _⟩ := h4.valid z (List.mem_append_right _ List.mem_cons_self)
      have : has (r ++ [z]) z.1 = true := by rw [has_app, has_cons, decide_eq_true (Nat.le_refl _), decide_eq_true v1]; simp
      have := (h4.low this).1
      omega
    · exact TidyFrom.last (r := r) h4 h
end LL
namespace LL
open PySem PySem.Spec PyProof.Rows L2
/-- a law's box: what is left of the cell, its rest, a count -/
def BoxO (o : HO) : Prop := ∃ x b c : Int, o = .lst [.int x, .int b, .int c] ∧ 0 ≤ x ∧ 0 ≤ b ∧ b < 4294967296
/-- the box at a may have changed, the rest is kept -/
structure Kept (a : Addr) (H H' : Hp) : Prop where
  box : ∃ o, H' a = some o ∧ BoxO o
  old : ∀ b o, b ≠ a → H b = some o → H' b = some o
theorem Kept.upd {a : Addr} {H : Hp} {o : HO} (h : BoxO o) : Kept a H (upd H a o) := ⟨⟨o, upd_same, h⟩, fun b _ n e => by rw [upd_ne n]; exact e⟩
theorem Kept.trans {a : Addr} {H H1 H2 : Hp} (x : Kept a H H1) (y : Kept a H1 H2) : Kept a H H2 := ⟨y.box, fun b o n e => y.old b o n (x.old b o n e)⟩
theorem Kept.refl {a : Addr} {H : Hp} (h : ∃ o, H a = some o ∧ BoxO o) : Kept a H H := ⟨h, fun _ _ _ e => e⟩
/-- a new object more -/
theorem Kept.new {a p : Addr} {H H1 : Hp} {u : HO} (x : Kept a H H1) (hp : H1 p = none) : Kept a H (L2.upd H1 p u) := by
  obtain ⟨⟨o, e, b⟩, old⟩ := x
  exact ⟨⟨o, by rw [upd_ne (ne_of_none e hp)]; exact e, b⟩, fun c v n q => by rw [upd_ne (ne_of_none (old c v n q) hp)]; exact old c v n q⟩
theorem at0 (x y z : V) : atI [x, y, z] 0 = some x := atI_nat (j := 0) rfl
theorem at1 (x y z : V) : atI [x, y, z] 1 = some y := atI_nat (j := 1) rfl
theorem at2 (x y z : V) : atI [x, y, z] 2 = some z := atI_nat (j := 2) rfl
theorem Kept.tab {a P : Addr} {H H' : Hp} (x : Kept a H H') (b : ∃ o, H a = some o ∧ BoxO o) (t : GxR.TabG H P) : GxR.TabG H' P := by
  obtain ⟨o, e, x0, y0, z0, rfl, _⟩ := b
  obtain ⟨ps, e2, t2⟩ := t
  exact ⟨ps, x.old P _ (fun z => by rw [z, e] at e2; cases e2) e2, t2⟩
/-- a box that is new since H0 -/
theorem Nw.kept {a P : Addr} {H0 H H' : Hp} (n : Nw P H0 H) (h : H0 a = none) (b : ∃ o, H a = some o ∧ BoxO o) (x : Kept a H H') : Nw P H0 H' :=
  ⟨n.was, x.tab b n.tab, fun c o m e => x.old c o (fun z => by rw [z, h] at e; cases e) (n.old c o m e)⟩
theorem RowAt.kept {a b : Addr} {H H' : Hp} {r : List Pr} (h : RowAt H b r) (bx : ∃ o, H a = some o ∧ BoxO o) (x : Kept a H H') : RowAt H' b r := by
  obtain ⟨o, e, x0, y0, z0, rfl, _⟩ := bx
  obtain ⟨qs, e1, p⟩ := h
  refine ⟨qs, x.old b _ (fun z => ?_) e1, p.put fun q xs e2 => x.old q _ (fun z => by rw [z, e] at e2; cases e2) e2⟩
  rw [z, e] at e1
  have := congrArg (fun u : Option HO => match u with | some (.lst (v :: _)) => some v | _ => none) e1
  cases qs with
  | nil => cases this
  | cons q qs => cases this
/-- nothing that stood is changed -/
def Exd (H H' : Hp) : Prop := ∀ b o, H b = some o → H' b = some o
theorem Exd.refl (H : Hp) : Exd H H := fun _ _ e => e
theorem Exd.trans {H H1 H2 : Hp} (x : Exd H H1) (y : Exd H1 H2) : Exd H H2 := fun b o e => y b o (x b o e)
theorem Exd.new {p : Addr} {H H1 : Hp} {u : HO} (x : Exd H H1) (hp : H1 p = none) : Exd H (L2.upd H1 p u) := fun b o e => by
  rw [upd_ne (ne_of_none (x b o e) hp)]
  exact x b o e
theorem Exd.put {p : Addr} {H H1 : Hp} {u : HO} (x : Exd H H1) (hp : H p = none) : Exd H (L2.upd H1 p u) := fun b o e => by
  rw [upd_ne (ne_of_none e hp)]
  exact x b o e
theorem Exd.nw {P : Addr} {H H' : Hp} (x : Exd H H') (t : GxR.TabG H P) : Nw P H H' := by
  obtain ⟨ps, e, t2⟩ := id t
  exact ⟨t, ⟨ps, x P _ e, t2⟩, fun b o _ e => x b o e⟩
theorem Exd.row {a : Addr} {H H' : Hp} {r : List Pr} (x : Exd H H') (h : RowAt H a r) : RowAt H' a r := h.keep fun b o _ e => x b o e
theorem Exd.kept {a : Addr} {H H' : Hp} (x : Exd H H') (b : ∃ o, H a = some o ∧ BoxO o) : Kept a H H' := by
  obtain ⟨o, e, bo⟩ := b
  exact ⟨⟨o, x a o e, bo⟩, fun c u _ q => x c u q⟩
theorem Exd.free {a : Addr} {H H' : Hp} (x : Exd H H') (e : H' a = none) : H a = none := by
  cases q : H a with
  | none => rfl
  | some o =>
    rw [x a o q] at e
    cases e
theorem Kept.free {a b : Addr} {H H' : Hp} (x : Kept a H H') (e : H' b = none) : H b = none := by
  cases q : H b with
  | none => rfl
  | some o =>
    by_cases z : b = a
    · obtain ⟨o', e', _⟩ := x.box
      rw [z, e'] at e
      cases e
    · rw [x.old b o z q] at e
      cases e
/-! ### four hundred marks -/
def marks (S : Nat → Bool) : List V := (List.range 400).map fun n => V.bl (S n)
theorem marks_len (S : Nat → Bool) : (marks S).length = 400 := by unfold marks; rw [List.length_map, List.length_range]
theorem marks_get (S : Nat → Bool) {n : Nat} (h : n < 400) : (marks S)[n]? = some (.bl (S n)) := by
  unfold marks
  rw [List.getElem?_map, List.getElem?_range h]
  rfl
theorem marks_at (S : Nat → Bool) {n : Nat} (h : n < 400) : atI (marks S) (n : Int) = some (.bl (S n)) := atI_nat (marks_get S h)
theorem flat_rep (n : Nat) (x : V) : (List.replicate n [x]).flatten = List.replicate n x := by
  induction n with
  | zero => rfl
  | succ n ih => rw [List.replicate_succ, List.flatten_cons, ih]; rfl
theorem marks_none : (List.replicate (400 : Int).toNat [V.bl false]).flatten = marks fun _ => false := by
  rw [flat_rep]
  unfold marks
  rw [List.map_const', List.length_range]
  rfl
theorem marks_set (S : Nat → Bool) (n : Nat) : (marks S).set n (V.bl true) = marks fun i => S i || decide (i = n) := by
  apply List.ext_getElem?
  intro i
  by_cases l : i < 400
  · rw [marks_get _ l, List.getElem?_set]
    by_cases e : n = i
    · subst e
      rw [if_pos rfl, if_pos (by rw [marks_len]; exact l), decide_eq_true rfl, Bool.or_true]
    · rw [if_neg e, marks_get _ l, decide_eq_false (fun z => e z.symm), Bool.or_false]
  · rw [List.getElem?_eq_none (by rw [List.length_set, marks_len]; omega), List.getElem?_eq_none (by rw [marks_len]; omega)]
theorem marks_ext {S T : Nat → Bool} (h : ∀ n, n < 400 → S n = T n) : marks S = marks T := by
  apply List.ext_getElem?
  intro i
  by_cases l : i < 400
  · rw [marks_get _ l, marks_get _ l, h i l]
  · rw [List.getElem?_eq_none (by rw [marks_len]; omega), List.getElem?_eq_none (by rw [marks_len]; omega)]
theorem marks_snoc (S : Nat → Bool) (n : Nat) : ((List.range (n + 1)).map fun i => V.bl (S i)) = ((List.range n).map fun i => V.bl (S i)) ++ [.bl (S n)] := by
  rw [List.range_succ, List.map_append]
  rfl
end LL
namespace LL
open PySem PySem.Spec PyProof.Rows L2
/-! ### what repr asks of data -/
/-- data of at most W bits and places, its whole numbers short -/
structure Sm (d : PyData) (k W : Nat) : Prop where
  lay : d.canLay0 = true
  sh : d.showable = true
  shrt : d.intsShort 13 = true
  dep : d.depth ≤ k
  wt : d.weight ≤ W
structure SmAll (ds : List PyData) (k W : Nat) : Prop where
  lay : PyData.canLayAll0 ds = true
  sh : PyData.showableAll ds = true
  shrt : PyData.intsShortAll 13 ds = true
  dep : PyData.depthAll ds ≤ k
  wt : PyData.weightAll ds ≤ W
theorem smAll_nil : SmAll [] 0 0 := ⟨rfl, rfl, rfl, Nat.le_refl _, Nat.le_refl _⟩
theorem SmAll.cons {d : PyData} {ds : List PyData} {k l W U : Nat} (h : Sm d k W) (t : SmAll ds l U) : SmAll (d :: ds) (max k l) (W + 1 + U) := by
  refine ⟨?_, ?_, ?_, ?_, ?_⟩
  · simp only [PyData.canLayAll0, h.lay, t.lay, Bool.and_self]
  · simp only [PyData.showableAll, h.sh, t.sh, Bool.and_self]
  · simp only [PyData.intsShortAll, h.shrt, t.shrt, Bool.and_self]
  · simp only [PyData.depthAll]
    have := h.dep
    have := t.dep
    omega
  · simp only [PyData.weightAll]
    have := h.wt
    have := t.wt
    omega
theorem SmAll.list {ds : List PyData} {k W : Nat} (t : SmAll ds k W) : Sm (.list ds) (k + 1) W :=
  ⟨by simp only [PyData.canLay0]; exact t.lay, by simp only [PyData.showable]; exact t.sh, by simp only [PyData.intsShort]; exact t.shrt, by simp only [PyData.depth]; have := t.dep; omega, by simp only [PyData.weight]; exact t.wt⟩
theorem SmAll.tuple {ds : List PyData} {k W : Nat} (t : SmAll ds k W) : Sm (.tuple ds) (k + 1) W :=
  ⟨by simp only [PyData.canLay0]; exact t.lay, by simp only [PyData.showable]; exact t.sh, by simp only [PyData.intsShort]; exact t.shrt, by simp only [PyData.depth]; have := t.dep; omega, by simp only [PyData.weight]; exact t.wt⟩
theorem Sm.mono {d : PyData} {k l W U : Nat} (h : Sm d k W) (a : k ≤ l) (b : W ≤ U) : Sm d l U := ⟨h.lay, h.sh, h.shrt, Nat.le_trans h.dep a, Nat.le_trans h.wt b⟩
theorem SmAll.mono {d : List PyData} {k l W U : Nat} (h : SmAll d k W) (a : k ≤ l) (b : W ≤ U) : SmAll d l U := ⟨h.lay, h.sh, h.shrt, Nat.le_trans h.dep a, Nat.le_trans h.wt b⟩
theorem smAll_of {ds : List PyData} {k W : Nat} (h : ∀ d ∈ ds, Sm d k W) : SmAll ds k ((W + 1) * ds.length) := by
  induction ds with
  | nil => exact smAll_nil.mono (Nat.zero_le _) (Nat.zero_le _)
  | cons d ds ih =>
    refine ((h d List.mem_cons_self).mono (Nat.le_refl _) (Nat.le_refl _) |> fun x => SmAll.cons x (ih fun y hy => h y (List.mem_cons_of_mem _ hy))).mono (by omega) ?_
    rw [List.length_cons, Nat.mul_succ]
    omega
theorem short_nat : ∀ n : Nat, n < 1001 → (PyData.shown (.int (n : Int))).length ≤ 13 := by decide +kernel
theorem bits_nat : ∀ n : Nat, n < 1001 → (PyData.weight (.int (n : Int))) ≤ 10 ∧ ((n : Int)).natAbs.log2 < 1920 := by decide +kernel
theorem sm_nat {n : Nat} (h : n ≤ 1000) : Sm (.int (n : Int)) 0 10 :=
  ⟨by simp only [PyData.canLay0], by simp only [PyData.showable]; exact decide_eq_true (bits_nat n (by omega)).2, by simp only [PyData.intsShort]; exact decide_eq_true (short_nat n (by omega)), by simp only [PyData.depth]; exact Nat.le_refl _, (bits_nat n (by omega)).1⟩
theorem sm_pr {z : Pr} (h : z.1 < z.2 ∧ z.2 ≤ 400) : Sm (prDat z) 1 22 :=
  (((sm_nat (by omega)).mono (Nat.le_refl _) (Nat.le_refl _) |> fun a => SmAll.cons a (SmAll.cons (sm_nat (n := z.2) (by omega)) smAll_nil)).tuple).mono (by decide) (by decide)
theorem sm_row {r : List Pr} (v : Valid r) (l : r.length ≤ 400) : Sm (rowDat r) 2 9200 := by
  have := (smAll_of (ds := r.map prDat) (k := 1) (W := 22) fun d hd => by
    obtain ⟨z, hz, rfl⟩ := List.mem_map.mp hd
    exact sm_pr (v z hz)).list
  refine this.mono (by decide) ?_
  rw [List.length_map]
  omega
theorem Sm.rep {d : PyData} {k W : Nat} (h : Sm d k W) (hk : k ≤ 60) (hW : W ≤ 1048576) : d.showable = true ∧ d.hasDict = false ∧ d.depth ≤ 60 ∧ d.shown.length ≤ sizeLine := by
  refine ⟨h.sh, PyData.hasDict_of_canLay d h.lay, Nat.le_trans h.dep hk, ?_⟩
  refine PyData.shown_fits (B := 13) (by decide) (by decide) (PyData.leavesShort_of_canLay0 13 d h.lay h.shrt) ?_
  have e : (2 : Nat) ^ 20 = 1048576 := by decide
  have := h.wt
  omega
theorem Sm.shaped {d : PyData} {k W : Nat} (h : Sm d k W) (hk : k ≤ 60) : SeqAt.shaped d = true := by
  show (d.canLay0 && decide (d.depth ≤ 64)) = true
  rw [h.lay, Bool.true_and]
  have := h.dep
  exact decide_eq_true (by omega)
/-- repr of such data -/
theorem call_reprM {X : Cx} (guard : X.A.guards = some []) {k : Nat} (room : Room k X.A) : CallR X (.builtin "repr") (fun xs H Q => ∃ v d, xs = [v] ∧ Dp X.K H v d ∧ isDisplay d = true ∧ Sm d 60 1048576 ∧ Q (.str d.shown) H) := by
  intro pins s σ H xs us Q I r ⟨v, d, e, dp, di, sm, q⟩
  obtain ⟨a, b, c, l⟩ := sm.rep (Nat.le_refl _) (Nat.le_refl _)
  exact call_reprD guard room pins s σ H xs us Q I r ⟨v, d, e, dp, di, a, b, c, l, q⟩
/-! ### lists of rows -/
inductive RowsAt (H : Hp) : List Addr → List (List Pr) → Prop
  | nil : RowsAt H [] []
  | cons {a : Addr} {as : List Addr} {r : List Pr} {rs : List (List Pr)} (h : RowAt H a r) (t : RowsAt H as rs) : RowsAt H (a :: as) (r :: rs)
theorem RowsAt.dp {K : PySem.W.Frag} {H : Hp} {as : List Addr} {rs : List (List Pr)} (h : RowsAt H as rs) : DpAll K H (as.map V.ref) (rs.map rowDat) := by
  induction h with
  | nil => exact .nil
  | cons a _ ih => exact .cons a.dp ih
theorem RowsAt.keep {H H' : Hp} {as : List Addr} {rs : List (List Pr)} (k : Keep H H') (h : RowsAt H as rs) : RowsAt H' as rs := by
  induction h with
  | nil => exact .nil
  | cons a _ ih => exact .cons (a.keep k) ih
def rowsDat (rs : List (List Pr)) : PyData := .list (rs.map rowDat)
theorem rows_dp {K : PySem.W.Frag} {H : Hp} {p : Addr} {as : List Addr} {rs : List (List Pr)} (e : H p = some (.lst (as.map V.ref))) (h : RowsAt H as rs) : Dp K H (.ref p) (rowsDat rs) := .lst (SqL.of e) h.dp
theorem sm_rows {rs : List (List Pr)} (h : ∀ r ∈ rs, Valid r ∧ r.length ≤ 400) (l : rs.length ≤ 100) : Sm (rowsDat rs) 60 1048576 := by
  have := (smAll_of (ds := rs.map rowDat) (k := 2) (W := 9200) fun d hd => by
    obtain ⟨r, hr, rfl⟩ := List.mem_map.mp hd
    exact sm_row (h r hr).1 (h r hr).2).list
  refine this.mono (by decide) ?_
  rw [List.length_map]
  omega
theorem eqvs_rows : ∀ rs qs : List (List Pr), PyData.eqvAll (rs.map rowDat) (qs.map rowDat) = decide (rs = qs)
  | [], [] => by simp [PyData.eqvAll]
  | [], _ :: _ => by simp [PyData.eqvAll]
  | _ :: _, [] => by simp [PyData.eqvAll]
  | r :: rs, q :: qs => by
    have ih := eqvs_rows rs qs
    simp only [List.map_cons, PyData.eqvAll]
    rw [ih, rowDat_eqv, Bool.eq_iff_iff]
    simp
theorem rowsDat_eqv (rs qs : List (List Pr)) : PyData.eqv (rowsDat rs) (rowsDat qs) = decide (rs = qs) := by
  simp only [rowsDat, PyData.eqv]
  exact eqvs_rows rs qs
theorem RowAt.upd {H : Hp} {a d : Addr} {r : List Pr} {xs ys : List V} (h : RowAt H a r) (n : a ≠ d) (e : H d = some (.lst xs)) : RowAt (L2.upd H d (.lst ys)) a r := by
  obtain ⟨qs, e1, p⟩ := h
  exact ⟨qs, by rw [upd_ne n]; exact e1, p.put fun q zs e2 => by rw [upd_ne (ne_of e2 e (by intro z; cases z))]; exact e2⟩
theorem RowsAt.upd {H : Hp} {as : List Addr} {d : Addr} {rs : List (List Pr)} {xs ys : List V} (h : RowsAt H as rs) (n : ∀ a ∈ as, a ≠ d) (e : H d = some (.lst xs)) : RowsAt (L2.upd H d (.lst ys)) as rs := by
  induction h with
  | nil => exact .nil
  | cons a _ ih => exact .cons (a.upd (n _ List.mem_cons_self) e) (ih fun a ha => n a (List.mem_cons_of_mem _ ha))
theorem RowsAt.app {H : Hp} {as bs : List Addr} {rs qs : List (List Pr)} (h : RowsAt H as rs) (g : RowsAt H bs qs) : RowsAt H (as ++ bs) (rs ++ qs) := by
  induction h with
  | nil => exact g
  | cons a _ ih => exact .cons a ih
theorem Exd.rows {H H' : Hp} {as : List Addr} {rs : List (List Pr)} (x : Exd H H') (h : RowsAt H as rs) : RowsAt H' as rs := h.keep fun b o _ e => x b o e
theorem marks_ne {H : Hp} {d x : Addr} {xs : List V} {S : Nat → Bool} (e1 : H d = some (.lst xs)) (e2 : H x = some (.lst (marks S))) (n : xs.length < 400) : d ≠ x := fun z => by
  rw [z, e2] at e1
  injection e1 with e1
  injection e1 with e1
  rw [← e1, marks_len] at n
  exact Nat.lt_irrefl _ n
/-- [f(k) for k in range(400)], True or False each -/
theorem lc_marks {j : Nat} {te : TE} {vs : List Nat} {σ : L2.St} {H1 : Hp} {D : Addr} {Qd : Hp → Prop} (f : Nat → Bool) (hw : ∀ v : V, wipe ((wipe σ vs).set j (some v)) vs = wipe σ vs)
    (hs : ∀ (i : Nat) (H' : Hp) (Q : VK), i < 400 → H' = upd H1 D (.lst ((List.range i).map fun n => V.bl (f n))) → Q (.bl (f i)) H' → te ((wipe σ vs).set j (some (.int ((0 : Int) + (i : Int))))) H' Q) (hd : Qd (upd H1 D (.lst (marks f)))) :
    ∃ W : Nat → Nat → Hp → Prop, (∃ m, W 0 m (upd H1 D (.lst []))) ∧ ∀ i m H, W i m H →
      ((Itr 0 (400 : Int).toNat).stop i H ∧ Qd H) ∨ ((Itr 0 (400 : Int).toNat).go i H ∧ ∃ Nx : Hp → Prop, (∀ H', Nx H' → ∃ m', m' < m ∧ W (i + 1) m' H') ∧ ∀ x H', (Itr 0 (400 : Int).toNat).yld i H x H' → gName j x (wipe σ vs) H' fun σ2 H2 => wipe σ2 vs = wipe σ vs ∧ tYes σ2 H2 fun b H3 =>
        if b = true then te σ2 H3 fun y H4 => ∃ acc, H4 D = some (.lst acc) ∧ acc.length < sizeLine ∧ Nx (upd H4 D (.lst (acc ++ [y]))) else Nx H3) := by
  refine lc_range (lo := 0) (fun i H' => H' = upd H1 D (.lst ((List.range i).map fun n => V.bl (f n)))) rfl ?_ ?_
  · intro i H' hi e
    have hi : i < 400 := hi
    refine ⟨hw _, ?_⟩
    refine hs i H' (fun y H4 => ∃ acc, H4 D = some (.lst acc) ∧ acc.length < sizeLine ∧ upd H4 D (.lst (acc ++ [y])) = upd H1 D (.lst ((List.range (i + 1)).map fun n => V.bl (f n)))) hi e ⟨_, by rw [e]; exact upd_same, ?_, ?_⟩
    · rw [List.length_map, List.length_range]
      have := PySem.sizeLine_eq
      omega
    · rw [e, upd_upd, marks_snoc]
  · intro H' e
    have e : H' = upd H1 D (.lst (marks f)) := e
    rw [e]
    exact hd
theorem RowsAt.kept {a : Addr} {H H' : Hp} {as : List Addr} {rs : List (List Pr)} (h : RowsAt H as rs) (bx : ∃ o, H a = some o ∧ BoxO o) (x : Kept a H H') : RowsAt H' as rs := by
  induction h with
  | nil => exact .nil
  | cons r _ ih => exact .cons (r.kept bx x) ih
theorem RowsAt.nw {P : Addr} {H H' : Hp} {as : List Addr} {rs : List (List Pr)} (h : RowsAt H as rs) (x : Nw P H H') : RowsAt H' as rs := h.keep x.keep
theorem sqL_nw {P : Addr} {H H' : Hp} {K : PySem.W.Frag} {a : Addr} {xs : List V} (x : Nw P H H') (h : SqL K H a xs) : SqL K H' a xs := by
  rcases h with h | h
  · refine .inl ?_
    rcases h with h | ⟨o, h⟩
    · exact .inl (x.keep _ _ (fun q z => by cases z) h)
    · exact .inr ⟨o, x.keep _ _ (fun q z => by cases z) h⟩
  · exact .inr h
/-- [e for x in range(lo, .., c)] -/
theorem lc_step {lo c : Int} {n : Nat} {g : TG} {tt : TT} {te : TE} {vs : List Nat} {σ : L2.St} {H1 : Hp} {D : Addr} {Qd : Hp → Prop} (J : Nat → Hp → Prop) (first : J 0 (upd H1 D (.lst [])))
    (turn : ∀ i H, i < n → J i H → g (.int (lo + (i : Nat) * c)) (wipe σ vs) H fun σ2 H2 => wipe σ2 vs = wipe σ vs ∧ tt σ2 H2 fun b H3 =>
      if b = true then te σ2 H3 fun y H4 => ∃ acc, H4 D = some (.lst acc) ∧ acc.length < sizeLine ∧ J (i + 1) (upd H4 D (.lst (acc ++ [y]))) else J (i + 1) H3) (last : ∀ H, J n H → Qd H) :
    ∃ W : Nat → Nat → Hp → Prop, (∃ m, W 0 m (upd H1 D (.lst []))) ∧ ∀ i m H, W i m H →
      ((Itc lo c n).stop i H ∧ Qd H) ∨ ((Itc lo c n).go i H ∧ ∃ Nx : Hp → Prop, (∀ H', Nx H' → ∃ m', m' < m ∧ W (i + 1) m' H') ∧ ∀ x H', (Itc lo c n).yld i H x H' → g x (wipe σ vs) H' fun σ2 H2 => wipe σ2 vs = wipe σ vs ∧ tt σ2 H2 fun b H3 =>
        if b = true then te σ2 H3 fun y H4 => ∃ acc, H4 D = some (.lst acc) ∧ acc.length < sizeLine ∧ Nx (upd H4 D (.lst (acc ++ [y]))) else Nx H3) := by
  refine ⟨fun i m H => m = n - i ∧ i ≤ n ∧ J i H, ⟨n, by simp, Nat.zero_le _, first⟩, ?_⟩
  rintro i m H ⟨rfl, le, j⟩
  rcases Nat.lt_or_ge i n with lt | ge
  · refine .inr ⟨lt, J (i + 1), fun H' j' => ⟨n - (i + 1), by omega, rfl, lt, j'⟩, fun x H' y => ?_⟩
    obtain ⟨rfl, rfl⟩ := y
    exact turn i _ lt j
  · obtain rfl : i = n := by omega
    exact .inl ⟨Nat.le_refl _, last H j⟩
end LL
namespace LL
open PySem PySem.Spec PyProof.Rows L2
def top (i : Nat) : Stmt := PySem.Challenge.pw_leastlore_k15_sets_of_rows.main.body.getD i (.Pass ⟨0, 0, 0, 0⟩)
abbrev scmaskbetween_st : Stmt := top 4
abbrev scmaskbetween_N : List Str := ["begin", "end"]
theorem scmaskbetween : FnScope scmaskbetween_N ["begin", "end"] (defScope scmaskbetween_st) := ⟨rfl, rfl, rfl, by decide +kernel, rfl, by decide +kernel, by decide +kernel⟩
abbrev scmaskof_st : Stmt := top 5
abbrev scmaskof_N : List Str := ["runs", "mask", "begin", "end"]
theorem scmaskof : FnScope scmaskof_N ["runs"] (defScope scmaskof_st) := ⟨rfl, rfl, rfl, by decide +kernel, rfl, by decide +kernel, by decide +kernel⟩
abbrev scfirstin_st : Stmt := top 6
abbrev scfirstin_N : List Str := ["mask"]
theorem scfirstin : FnScope scfirstin_N ["mask"] (defScope scfirstin_st) := ⟨rfl, rfl, rfl, by decide +kernel, rfl, by decide +kernel, by decide +kernel⟩
abbrev scrunsin_st : Stmt := top 7
abbrev scrunsin_N : List Str := ["mask", "runs", "end", "begin"]
theorem scrunsin : FnScope scrunsin_N ["mask"] (defScope scrunsin_st) := ⟨rfl, rfl, rfl, by decide +kernel, rfl, by decide +kernel, by decide +kernel⟩
abbrev sciswhole_st : Stmt := top 9
abbrev sciswhole_N : List Str := ["thing"]
theorem sciswhole : FnScope sciswhole_N ["thing"] (defScope sciswhole_st) := ⟨rfl, rfl, rfl, by decide +kernel, rfl, by decide +kernel, by decide +kernel⟩
abbrev sciswithin_st : Stmt := top 10
abbrev sciswithin_N : List Str := ["thing", "low", "high"]
theorem sciswithin : FnScope sciswithin_N ["thing", "low", "high"] (defScope sciswithin_st) := ⟨rfl, rfl, rfl, by decide +kernel, rfl, by decide +kernel, by decide +kernel⟩
abbrev scisspan_st : Stmt := top 13
abbrev scisspan_N : List Str := ["begin", "end", "most"]
theorem scisspan : FnScope scisspan_N ["begin", "end", "most"] (defScope scisspan_st) := ⟨rfl, rfl, rfl, by decide +kernel, rfl, by decide +kernel, by decide +kernel⟩
abbrev scisstretch_st : Stmt := top 14
abbrev scisstretch_N : List Str := ["thing"]
theorem scisstretch : FnScope scisstretch_N ["thing"] (defScope scisstretch_st) := ⟨rfl, rfl, rfl, by decide +kernel, rfl, by decide +kernel, by decide +kernel⟩
abbrev scisruns_st : Stmt := top 15
abbrev scisruns_N : List Str := ["thing"]
theorem scisruns : FnScope scisruns_N ["thing"] (defScope scisruns_st) := ⟨rfl, rfl, rfl, by decide +kernel, rfl, by decide +kernel, by decide +kernel⟩
abbrev scmaskoftidy_st : Stmt := top 16
abbrev scmaskoftidy_N : List Str := ["runs"]
theorem scmaskoftidy : FnScope scmaskoftidy_N ["runs"] (defScope scmaskoftidy_st) := ⟨rfl, rfl, rfl, by decide +kernel, rfl, by decide +kernel, by decide +kernel⟩
abbrev scjoinedruns_st : Stmt := top 17
abbrev scjoinedruns_N : List Str := ["one", "other", "mine", "theirs"]
theorem scjoinedruns : FnScope scjoinedruns_N ["one", "other"] (defScope scjoinedruns_st) := ⟨rfl, rfl, rfl, by decide +kernel, rfl, by decide +kernel, by decide +kernel⟩
abbrev sccommonruns_st : Stmt := top 18
abbrev sccommonruns_N : List Str := ["one", "other", "mine", "theirs"]
theorem sccommonruns : FnScope sccommonruns_N ["one", "other"] (defScope sccommonruns_st) := ⟨rfl, rfl, rfl, by decide +kernel, rfl, by decide +kernel, by decide +kernel⟩
abbrev sclessruns_st : Stmt := top 19
abbrev sclessruns_N : List Str := ["one", "other", "mine", "theirs"]
theorem sclessruns : FnScope sclessruns_N ["one", "other"] (defScope sclessruns_st) := ⟨rfl, rfl, rfl, by decide +kernel, rfl, by decide +kernel, by decide +kernel⟩
abbrev scLcellat_st : Stmt := top 21
abbrev scLcellat_N : List Str := ["_law_script", "_law_k"]
theorem scLcellat : FnScope scLcellat_N ["_law_script", "_law_k"] (defScope scLcellat_st) := ⟨rfl, rfl, rfl, by decide +kernel, rfl, by decide +kernel, by decide +kernel⟩
abbrev scLbox_st : Stmt := top 22
abbrev scLbox_N : List Str := ["_law_cell"]
theorem scLbox : FnScope scLbox_N ["_law_cell"] (defScope scLbox_st) := ⟨rfl, rfl, rfl, by decide +kernel, rfl, by decide +kernel, by decide +kernel⟩
abbrev scLtake_st : Stmt := top 23
abbrev scLtake_N : List Str := ["_law_box_here", "_law_many", "_law_number"]
theorem scLtake : FnScope scLtake_N ["_law_box_here", "_law_many"] (defScope scLtake_st) := ⟨rfl, rfl, rfl, by decide +kernel, rfl, by decide +kernel, by decide +kernel⟩
abbrev scLstretches_st : Stmt := top 24
abbrev scLstretches_N : List Str := ["_law_box_here", "_law_most", "_law_found", "_law_k", "_law_begin", "_law_wide"]
theorem scLstretches : FnScope scLstretches_N ["_law_box_here", "_law_most"] (defScope scLstretches_st) := ⟨rfl, rfl, rfl, by decide +kernel, rfl, by decide +kernel, by decide +kernel⟩
abbrev scLrising_st : Stmt := top 25
abbrev scLrising_N : List Str := ["_law_marks_here", "_law_found", "_law_number"]
theorem scLrising : FnScope scLrising_N ["_law_marks_here"] (defScope scLrising_st) := ⟨rfl, rfl, rfl, by decide +kernel, rfl, by decide +kernel, by decide +kernel⟩
abbrev scLmarks_st : Stmt := top 26
abbrev scLmarks_N : List Str := ["_law_stretches_here", "_law_marks_here", "_law_begin", "_law_end", "_law_number"]
theorem scLmarks : FnScope scLmarks_N ["_law_stretches_here"] (defScope scLmarks_st) := ⟨rfl, rfl, rfl, by decide +kernel, rfl, by decide +kernel, by decide +kernel⟩
abbrev scLright_st : Stmt := top 27
abbrev scLright_N : List Str := ["_law_one", "_law_other", "_law_here", "_law_there", "_law_dues", "_law_k", "_law_kept", "_law_turn", "_law_told", "_law_some"]
theorem scLright : FnScope scLright_N ["_law_one", "_law_other"] (defScope scLright_st) := ⟨rfl, rfl, rfl, by decide +kernel, rfl, by decide +kernel, by decide +kernel⟩
abbrev sclaw_st : Stmt := top 28
abbrev sclaw_N : List Str := ["_law_script", "_law_k", "_law_box_here", "_law_most", "_law_rows", "_law_j", "_law_one", "_law_other", "_law_third", "_law_odd", "_law_number", "_law_even"]
theorem sclaw : FnScope sclaw_N ["_law_script"] (defScope sclaw_st) := ⟨rfl, rfl, rfl, by decide +kernel, rfl, by decide +kernel, by decide +kernel⟩
/-- where the defs stand -/
structure Defs (K : PySem.W.Frag) (mg : Str → Option Value) where
  mask_between : Dn K mg "mask_between" scmaskbetween_st ["begin", "end"]
  mask_of : Dn K mg "mask_of" scmaskof_st ["runs"]
  first_in : Dn K mg "first_in" scfirstin_st ["mask"]
  runs_in : Dn K mg "runs_in" scrunsin_st ["mask"]
  is_whole : Dn K mg "is_whole" sciswhole_st ["thing"]
  is_within : Dn K mg "is_within" sciswithin_st ["thing", "low", "high"]
  is_span : Dn K mg "is_span" scisspan_st ["begin", "end", "most"]
  is_stretch : Dn K mg "is_stretch" scisstretch_st ["thing"]
  is_runs : Dn K mg "is_runs" scisruns_st ["thing"]
  mask_of_tidy : Dn K mg "mask_of_tidy" scmaskoftidy_st ["runs"]
  joined_runs : Dn K mg "joined_runs" scjoinedruns_st ["one", "other"]
  common_runs : Dn K mg "common_runs" sccommonruns_st ["one", "other"]
  less_runs : Dn K mg "less_runs" sclessruns_st ["one", "other"]
  _law_cell_at : Dn K mg "_law_cell_at" scLcellat_st ["_law_script", "_law_k"]
  _law_box : Dn K mg "_law_box" scLbox_st ["_law_cell"]
  _law_take : Dn K mg "_law_take" scLtake_st ["_law_box_here", "_law_many"]
  _law_stretches : Dn K mg "_law_stretches" scLstretches_st ["_law_box_here", "_law_most"]
  _law_rising : Dn K mg "_law_rising" scLrising_st ["_law_marks_here"]
  _law_marks : Dn K mg "_law_marks" scLmarks_st ["_law_stretches_here"]
  _law_right : Dn K mg "_law_right" scLright_st ["_law_one", "_law_other"]
  law : Dn K mg "law" sclaw_st ["_law_script"]
/-- what else the names of the top hold -/
structure Tx (K : PySem.W.Frag) (mg : Str → Option Value) where
  b_range : mg "range" = none
  b_repr : mg "repr" = none
  b_isinstance : mg "isinstance" = none
  b_int : mg "int" = none
  b_tuple : mg "tuple" = none
  b_len : mg "len" = none
  b_max : mg "max" = none
  b_bool : mg "bool" = none
  b_list : mg "list" = none
  b_all : mg "all" = none
  b_min : mg "min" = none
  t_MOST_END : Tok
  g_MOST_END : mg "MOST_END" = some (.int 400 t_MOST_END)
def tx_mk {K : PySem.W.Frag} {mg : Str → Option Value} {t_MOST_END : Tok} (b_range : mg "range" = none) (b_repr : mg "repr" = none) (b_isinstance : mg "isinstance" = none) (b_int : mg "int" = none) (b_tuple : mg "tuple" = none) (b_len : mg "len" = none) (b_max : mg "max" = none) (b_bool : mg "bool" = none) (b_list : mg "list" = none) (b_all : mg "all" = none) (b_min : mg "min" = none)
    (g_MOST_END : mg "MOST_END" = some (.int 400 t_MOST_END)) : Tx K mg := ⟨b_range, b_repr, b_isinstance, b_int, b_tuple, b_len, b_max, b_bool, b_list, b_all, b_min, t_MOST_END, g_MOST_END⟩
section
variable {P : Program} {w : World} {K : PySem.W.Frag} {mg : Str → Option Value} {base : Heap}
def spBetween : Sp := fun vs H Q _ => ∃ z : Pr, vs = [.int (z.1 : Int), .int (z.2 : Int)] ∧ z.1 ≤ z.2 ∧ z.2 ≤ 1000000 ∧ Q (.int (span z : Nat)) H
theorem ok_mask_between (D : Defs K mg) (T : Tx K mg) : FnOk P w K mg base CX0 1 D.mask_between.f D.mask_between.fd ["begin", "end"] spBetween := by
  refine D.mask_between.F.ok scmaskbetween (fun vs H Q E h => ?_) (fun cdv A outer s H vs Q E hr h => ?_)
  · obtain ⟨z, rfl, _⟩ := h
    rfl
  · obtain ⟨⟨b, e⟩, rfl, le, top, k⟩ := h
    have le : b ≤ e := le
    have top : e ≤ 1000000 := top
    refine ⟨_, (pss_one (ps_ret (pe_op op_sub (pe_op op_shl pe_int (pv 1)) (pe_op op_shl pe_int (pv 0))))), ?_⟩
    refine ⟨_, rfl, _, _, rfl, rfl, ⟨by omega, by omega, by decide⟩, _, rfl, _, _, rfl, rfl, ⟨by omega, by omega, by decide⟩, _, _, rfl, rfl, ?_⟩
    have p : 2 ^ b ≤ 2 ^ e := Nat.pow_le_pow_right (by decide) le
    have q : (1 : Int) * 2 ^ ((e : Int)).toNat - 1 * 2 ^ ((b : Int)).toNat = ((span (b, e) : Nat) : Int) := by
      show _ = ((2 ^ e - 2 ^ b : Nat) : Int)
      rw [Int.toNat_natCast, Int.toNat_natCast, Int.one_mul, Int.one_mul, ← PySem.W.kbt_cast, ← PySem.W.kbt_cast]
      omega
    show Q (.int ((1 : Int) * 2 ^ ((e : Int)).toNat - 1 * 2 ^ ((b : Int)).toNat)) H
    rw [q]
    exact k
def spMask (K : PySem.W.Frag) : Sp := fun vs H Q _ => ∃ (a : Addr) (r : List Pr), vs = [.ref a] ∧ RowAt H a r ∧ Valid r ∧ Q (.int (maskN r : Nat)) H
theorem ok_mask_of (D : Defs K mg) (T : Tx K mg) : FnOk P w K mg base CX0 2 D.mask_of.f D.mask_of.fd ["runs"] (spMask K) := by
  have Gmask_between := ok_mask_between (P := P) (w := w) (base := base) D T
  refine D.mask_of.F.ok scmaskof (fun vs H Q E h => ?_) (fun cdv A outer s H vs Q E hr h => ?_)
  · obtain ⟨a, r, rfl, _⟩ := h
    rfl
  · obtain ⟨a, r, rfl, ⟨qs, ha, pr⟩, va, k⟩ := h
    refine ⟨_, (pss_cons (ps_set (i := 1) scmaskof.nd rfl (Or.inl rfl) pe_int)
        (pss_cons (ps_for PassesOwn.never rfl (pi_list (pv 0)) (pg_tup rfl (pgs_cons (pg_name (i := 2) scmaskof.nd rfl (Or.inl rfl)) (pgs_cons (pg_name (i := 3) scmaskof.nd rfl (Or.inl rfl)) pgs_nil))) (pss_one (ps_aug (i := 1) scmaskof.nd rfl (Or.inl rfl) (pcall D.mask_between Gmask_between hr (by decide) (by rfl) (pa_cons (pv 2) (pa_cons (pv 3) pa_nil))) iop_or)))
        (pss_one (ps_ret (pv 1))))), ?_⟩
    refine ⟨_, rfl, a, rfl, ⟨_, SqL.of ha⟩, for_list (K := K) (a := a) (xs := qs.map V.ref) (fun i σ H' => H' = H ∧ ∃ v1 v2, σ = [some (.ref a), some (.int (maskN (r.take i) : Nat)), v1, v2])
      ⟨rfl, _, _, rfl⟩ (fun i σ H' _ q => by rw [q.1]; exact SqL.of ha) ?_ ?_⟩
    · rintro i x σ H' hx ⟨rfl, v1, v2, rfl⟩
      rw [List.getElem?_map] at hx
      cases hq : qs[i]? with
      | none => rw [hq] at hx; cases hx
      | some q =>
        rw [hq] at hx
        obtain rfl : V.ref q = x := Option.some.inj hx
        obtain ⟨z, hz, hqt⟩ := pr.get hq
        obtain ⟨z1, z2⟩ := va z (List.mem_of_getElem? hz)
        refine ⟨q, _, rfl, SqT.of hqt, rfl, _, _, rfl, _, _, rfl, rfl, ?_⟩
        refine ⟨_, rfl, _, rfl, _, rfl, z, rfl, by omega, by omega, ?_⟩
        refine ⟨_, _, rfl, rfl, rfl, some (.int (z.1 : Int)), some (.int (z.2 : Int)), ?_⟩
        show [some (V.ref a), some (V.int (Builtin.bitOr ((maskN (r.take i) : Nat) : Int) ((span z : Nat) : Int))), some (V.int (z.1 : Int)), some (V.int (z.2 : Int))] = _
        rw [or_masks]
        have e : maskN (r.take (i + 1)) = maskN (r.take i) ||| span z := by
          unfold maskN
          rw [List.take_add_one, hz, List.foldl_append]
          rfl
        rw [e]
    · rintro σ H' ⟨rfl, v1, v2, rfl⟩
      refine ⟨_, rfl, ?_⟩
      rw [List.length_map, pr.len, List.take_length]
      exact k
def spFirst : Sp := fun vs H Q _ => ∃ (i : Int) (n : Nat), vs = [.int i] ∧ Low i n ∧ Q (.int (n : Int)) H
theorem ok_first_in (D : Defs K mg) (T : Tx K mg) : FnOk P w K mg base CX0 1 D.first_in.f D.first_in.fd ["mask"] spFirst := by
  refine D.first_in.F.ok scfirstin (fun vs H Q E h => ?_) (fun cdv A outer s H vs Q E hr h => ?_)
  · obtain ⟨i, n, rfl, _⟩ := h
    rfl
  · obtain ⟨i, n, rfl, lo, k⟩ := h
    refine ⟨_, (pss_one (ps_ret (pe_op op_sub (pe_bits (pe_op op_and (pv 0) (pe_un un_neg (pv 0)))) pe_int))), ?_⟩
    refine ⟨_, rfl, _, rfl, _, rfl, _, _, rfl, rfl, ?_⟩
    refine ⟨_, rfl, _, _, rfl, rfl, ?_⟩
    rw [lo.bits, bits_pow]
    have e : ((n + 1 : Nat) : Int) - 1 = (n : Int) := by omega
    show Q (.int (((n + 1 : Nat) : Int) - 1)) H
    rw [e]
    exact k
/-- the tidy row of a mask's numbers, new -/
def spRunsIn (tb : Addr) : Sp := fun vs H Q _ => ∃ m : Nat, vs = [.int (m : Int)] ∧ m < 2 ^ 400 ∧ GxR.TabG H tb ∧
  ∀ (r : List Pr) (p : Addr) (H' : Hp), Tidy r → (∀ n, has r n = m.testBit n) → Nw tb H H' → H p = none → RowAt H' p r → Q (.ref p) H'
theorem ok_runs_in (D : Defs K mg) (T : Tx K mg) {tb : Addr} : FnOk P w K mg base CX0 2 D.runs_in.f D.runs_in.fd ["mask"] (spRunsIn tb) := by
  have Gfirst_in := ok_first_in (P := P) (w := w) (base := base) D T
  refine D.runs_in.F.ok scrunsin (fun vs H Q E h => ?_) (fun cdv A outer s H vs Q E hr h => ?_)
  · obtain ⟨m, rfl, _⟩ := h
    rfl
  · obtain ⟨m, rfl, top, tab, k⟩ := h
    have bits : ∀ n, m.testBit n = true → n < 400 := fun n q => by
      rcases Nat.lt_or_ge n 400 with l | l
      · exact l
      · rw [Nat.testBit_lt_two_pow (Nat.lt_of_lt_of_le top (Nat.pow_le_pow_right (by decide) l))] at q
        cases q
    refine ⟨_, (pss_cons (ps_set (i := 1) scrunsin.nd rfl (Or.inl rfl) (pe_lst pa_nil))
        (pss_cons (ps_set (i := 2) scrunsin.nd rfl (Or.inl rfl) pe_int)
        (pss_cons (ps_while PassesOwn.never (pt_tru (pe_op op_shr (pv 0) (pv 2))) (pss_cons (ps_set (i := 3) scrunsin.nd rfl (Or.inl rfl) (pe_op op_add (pv 2) (pcall D.first_in Gfirst_in hr (by decide) (by rfl) (pa_cons (pe_op op_shr (pv 0) (pv 2)) pa_nil))))
        (pss_cons (ps_set (i := 2) scrunsin.nd rfl (Or.inl rfl) (pe_op op_add (pv 3) (pcall D.first_in Gfirst_in hr (by decide) (by rfl) (pa_cons (pe_un un_inv (pe_op op_shr (pv 0) (pv 3))) pa_nil))))
        (pss_one (ps_expr (pe_bm PySem.F.plainAttrs_list PySem.F.slot_list_append PySem.F.type_list_append mt_append (pv 1) (pa_cons (pe_tup (pa_cons (pv 3) (pa_cons (pv 2) pa_nil))) pa_nil)))))))
        (pss_one (ps_ret (pv 1)))))), ?_⟩
    refine ⟨(by show 0 ≤ sizeLine; decide), fun p hp => ?_⟩
    refine while_by (fun σ H' => ∃ (e : Nat) (r : List Pr) (v : Option V), σ = [some (.int (m : Int)), some (.ref p), some (.int (e : Int)), v] ∧ e ≤ 400 ∧ Tidy r ∧ (∀ z ∈ r, z.2 ≤ e) ∧ (∀ n, n < e → has r n = m.testBit n) ∧
        (r ≠ [] → m.testBit e = false) ∧ Nw tb H H' ∧ RowAt H' p r) (fun σ _ => match σ with | [_, _, some (.int e), _] => 400 - e.toNat | _ => 0)
      ⟨0, [], none, rfl, by omega, trivial, (fun z hz => nomatch hz), (fun n hn => absurd hn (Nat.not_lt_zero n)), (fun z => absurd rfl z), (Nw.refl tab).new hp, ⟨[], upd_same, .nil⟩⟩ ?_ (fun σ H Q Q' mono => ?_)
    · rintro σ H' ⟨e, r, v, rfl, e4, ti, lo, ha, gap, nw, row⟩
      refine ⟨_, rfl, _, rfl, _, _, rfl, rfl, Int.natCast_nonneg e, ?_⟩
      have sh : (m : Int) / 2 ^ ((e : Int)).toNat = ((m / 2 ^ e : Nat) : Int) := by
        rw [Int.toNat_natCast, ← PySem.W.kbt_cast]
        rfl
      show ∃ k, TruV _ (.int ((m : Int) / 2 ^ ((e : Int)).toNat)) _ k ∧ _
      rw [sh]
      by_cases z : m / 2 ^ e = 0
      · refine ⟨false, ?_, iteF ?_⟩
        · rw [z]; rfl
        · refine ⟨_, rfl, k r p H' ti (fun n => ?_) nw hp row⟩
          by_cases l : n < e
          · exact ha n l
          · rw [no_more z n (by omega)]
            cases q : has r n with
            | false => rfl
            | true =>
              obtain ⟨y, hy, q⟩ := List.any_eq_true.mp q
              have q := of_decide_eq_true (Bool.and_eq_true_iff.mp q).2
              have := lo y hy
              omega
      · obtain ⟨j, low1, set1, out1⟩ := low_of z
        obtain ⟨i, i0, low2, out2, set2⟩ := low_not set1
        refine ⟨true, ?_, iteT ?_⟩
        · show true = (((m / 2 ^ e : Nat) : Int) != 0)
          have : ((m / 2 ^ e : Nat) : Int) ≠ 0 := fun y => z (Int.ofNat.inj y)
          exact (bne_iff_ne.mpr this).symm
        have b4 := bits _ set1
        have e5 := bits (e + j + (i - 1)) (set2 _ (by omega) (by omega))
        refine ⟨_, rfl, _, rfl, _, rfl, _, _, rfl, rfl, Int.natCast_nonneg e, ?_⟩
        have q1 : (e : Int) + (j : Int) = ((e + j : Nat) : Int) := by omega
        have sh2 : (m : Int) / 2 ^ ((e : Int) + (j : Int)).toNat = ((m / 2 ^ (e + j) : Nat) : Int) := by
          rw [q1, Int.toNat_natCast, ← PySem.W.kbt_cast]
          rfl
        refine ⟨_, j, congrArg (fun y : Int => [V.int y]) sh, low1, _, _, rfl, rfl, ?_⟩
        refine ⟨_, rfl, _, rfl, _, rfl, _, _, rfl, rfl, (by omega : (0 : Int) ≤ (e : Int) + (j : Int)), _, rfl, ?_⟩
        refine ⟨_, i, congrArg (fun y : Int => [V.int (Builtin.bitNot y)]) sh2, low2, _, _, rfl, rfl, ?_⟩
        have q2 : (e : Int) + (j : Int) + (i : Int) = ((e + j + i : Nat) : Int) := by omega
        obtain ⟨qs, hq, pr⟩ := id row
        refine ⟨_, rfl, .inl ⟨rfl, _, SqL.of hq⟩, _, rfl, _, rfl, (by show 2 ≤ sizeLine; decide), fun t ht => ?_⟩
        have nt := ne_of_none hq ht
        have hr4 : r.length ≤ 201 := ti.len
        refine ⟨p, _, _, rfl, rfl, (by rw [upd_ne nt]; exact hq), ?_, ?_⟩
        · rw [List.length_map, pr.len]
          have := PySem.sizeLine_eq
          omega
        refine ⟨⟨e + j + i, r ++ [(e + j, e + j + i)], _, rfl, by omega, ti.app (fun y hy => ?_) (by omega) (by omega), fun y hy => ?_, fun n hn => ?_, fun _ => out2, ?_, qs ++ [t], ?_, ?_⟩, ?_⟩
        · rcases Nat.lt_or_ge y.2 (e + j) with l | l
          · exact l
          · have := lo y hy
            have g := gap (fun q => by rw [q] at hy; cases hy)
            have : e + j = e := by omega
            rw [this, g] at set1
            cases set1
        · rcases List.mem_append.mp hy with hy | hy
          · have := lo y hy
            omega
          · rw [List.mem_singleton.mp hy]
            exact Nat.le_refl _
        · rw [has_app, has_one]
          by_cases l : n < e
          · rw [ha n l, decide_eq_false (show ¬ e + j ≤ n by omega), Bool.false_and, Bool.or_false]
          · have no : has r n = false := by
              cases q : has r n with
              | false => rfl
              | true =>
                obtain ⟨y, hy, q⟩ := List.any_eq_true.mp q
                have q := of_decide_eq_true (Bool.and_eq_true_iff.mp q).2
                have := lo y hy
                omega
            rw [no, Bool.false_or]
            by_cases l2 : n < e + j
            · rw [out1 n (by omega) l2, decide_eq_false (show ¬ e + j ≤ n by omega), Bool.false_and]
            · rw [set2 n (by omega) hn, decide_eq_true (show e + j ≤ n by omega), decide_eq_true hn]
              rfl
        · refine (nw.new ht).put hp (o := .lst (qs.map V.ref)) (by rw [upd_ne nt]; exact hq) (fun q z => by cases z)
        · rw [List.map_append]
          exact upd_same
        · refine (pr.put fun q xs e => ?_).app (.cons ?_ .nil)
          · rw [upd_ne (ne_of e hq (by intro z; cases z)), upd_ne (ne_of_none e ht)]
            exact e
          · rw [upd_ne nt.symm]
            exact upd_same
        · show 400 - (((e + j + i : Nat) : Int)).toNat < 400 - ((e : Int)).toNat
          omega
    · intro h
      obtain ⟨v1, hx, v2, hy, a, b, e1, e2, c, k, tr, q⟩ := h
      exact ⟨v1, hx, v2, hy, a, b, e1, e2, c, k, tr, mono _ _ q⟩
end
end LL
namespace LL
open PySem PySem.Spec PyProof.Rows L2
section
variable {P : Program} {w : World} {K : PySem.W.Frag} {mg : Str → Option Value} {base : Heap} {c tb : Addr}
def spWhole (K : PySem.W.Frag) : Sp := fun vs H Q _ => ∃ x, vs = [x] ∧ Thing K H x ∧ Q (.bl (isInt x)) H
theorem ok_is_whole (D : Defs K mg) (T : Tx K mg) : FnOk P w K mg base CX0 1 D.is_whole.f D.is_whole.fd ["thing"] (spWhole K) := by
  refine D.is_whole.F.ok sciswhole (fun vs H Q E h => ?_) (fun cdv A outer s H vs Q E hr h => ?_)
  · obtain ⟨x, rfl, _⟩ := h
    rfl
  · obtain ⟨x, rfl, th, k⟩ := h
    refine ⟨_, (pss_one (ps_ret (pe_and (pe_callB call_is_int (by rfl) T.b_isinstance (by decide +kernel) (pa_cons (pv 0) (pa_cons (pe_bltn (v := .ty "int") (u := .type "int") (by rfl) T.b_int (by decide +kernel) rfl) pa_nil))) (pe_one (pe_not (pe_callB call_is_bool (by rfl) T.b_isinstance (by decide +kernel) (pa_cons (pv 0) (pa_cons (pe_bltn (v := .ty "bool") (u := .type "bool") (by rfl) T.b_bool (by decide +kernel) rfl) pa_nil)))))))), ?_⟩
    refine ⟨_, rfl, _, rfl, th, _, rfl, ?_⟩
    cases th with
    | int i => exact iteT ⟨_, rfl, _, rfl, .int i, _, rfl, k⟩
    | bl b => exact iteT ⟨_, rfl, _, rfl, .bl b, _, rfl, k⟩
    | _ => exact iteF k
def spWithin (K : PySem.W.Frag) : Sp := fun vs H Q _ => ∃ x lo hi, vs = [x, .int lo, .int hi] ∧ Thing K H x ∧ Q (.bl (within x lo hi)) H
theorem ok_is_within (D : Defs K mg) (T : Tx K mg) : FnOk P w K mg base CX0 2 D.is_within.f D.is_within.fd ["thing", "low", "high"] (spWithin K) := by
  have Gis_whole := ok_is_whole (P := P) (w := w) (base := base) D T
  refine D.is_within.F.ok sciswithin (fun vs H Q E h => ?_) (fun cdv A outer s H vs Q E hr h => ?_)
  · obtain ⟨x, lo, hi, rfl, _⟩ := h
    rfl
  · obtain ⟨x, lo, hi, rfl, th, k⟩ := h
    refine ⟨_, (pss_one (ps_ret (pe_and (pcall D.is_whole Gis_whole hr (by decide) (by rfl) (pa_cons (pv 0) pa_nil)) (pe_one (pe_chain op_le op_le (pv 1) (pv 0) (pv 2)))))), ?_⟩
    refine ⟨x, rfl, x, rfl, th, ⟨_, rfl, ?_⟩⟩
    cases th with
    | int i =>
      refine iteT ⟨_, rfl, _, rfl, _, _, rfl, rfl, _, rfl, ?_⟩
      by_cases h1 : lo ≤ i
      · rw [decide_eq_true h1]
        refine iteT ⟨_, rfl, _, _, rfl, rfl, ?_⟩
        have e : within (.int i) lo hi = decide (i ≤ hi) := by simp [within, h1]
        rw [e] at k
        exact k
      · rw [decide_eq_false h1]
        have e : within (.int i) lo hi = false := by simp [within, h1]
        rw [e] at k
        exact iteF k
    | _ => exact iteF k
def spSpan (K : PySem.W.Frag) : Sp := fun vs H Q _ => ∃ (y z : V) (most : Nat), vs = [y, z, .int (most : Int)] ∧ Thing K H y ∧ Thing K H z ∧ Q (.bl (spanV y z most)) H
theorem ok_is_span (D : Defs K mg) (T : Tx K mg) : FnOk P w K mg base CX0 3 D.is_span.f D.is_span.fd ["begin", "end", "most"] (spSpan K) := by
  have Gis_within := ok_is_within (P := P) (w := w) (base := base) D T
  refine D.is_span.F.ok scisspan (fun vs H Q E h => ?_) (fun cdv A outer s H vs Q E hr h => ?_)
  · obtain ⟨y, z, m, rfl, _⟩ := h
    rfl
  · obtain ⟨y, z, m, rfl, ty, tz, k⟩ := h
    refine ⟨_, (pss_one (ps_ret (pe_and (pcall D.is_within Gis_within hr (by decide) (by rfl) (pa_cons (pv 0) (pa_cons pe_int (pa_cons (pv 2) pa_nil)))) (pe_one (pcall D.is_within Gis_within hr (by decide) (by rfl) (pa_cons (pv 1) (pa_cons (pe_op op_add (pv 0) pe_int) (pa_cons (pv 2) pa_nil)))))))), ?_⟩
    refine ⟨_, rfl, _, rfl, _, _, _, rfl, ty, _, rfl, ?_⟩
    cases ty with
    | int b =>
      have e : spanV (.int b) z m = (within (.int b) 0 m && within z (b + 1) m) := rfl
      rw [e] at k
      cases q : within (.int b) 0 m with
      | false =>
        rw [q] at k
        exact iteF k
      | true =>
        rw [q, Bool.true_and] at k
        exact iteT ⟨_, rfl, _, rfl, _, _, rfl, rfl, _, rfl, _, _, _, rfl, tz, k⟩
    | _ => exact iteF k
def spStretch (K : PySem.W.Frag) : Sp := fun vs H Q _ => ∃ (x : V) (b : Bool), vs = [x] ∧ StB K H x b ∧ Q (.bl b) H
theorem ok_is_stretch (D : Defs K mg) (T : Tx K mg) : FnOk P w K mg base CX0 4 D.is_stretch.f D.is_stretch.fd ["thing"] (spStretch K) := by
  have Gis_span := ok_is_span (P := P) (w := w) (base := base) D T
  refine D.is_stretch.F.ok scisstretch (fun vs H Q E h => ?_) (fun cdv A outer s H vs Q E hr h => ?_)
  · obtain ⟨x, b, rfl, _⟩ := h
    rfl
  · obtain ⟨x, b, rfl, st, k⟩ := h
    refine ⟨_, (pss_one (ps_ret (pe_and (pe_callB call_is_tuple (by rfl) T.b_isinstance (by decide +kernel) (pa_cons (pv 0) (pa_cons (pe_bltn (v := .ty "tuple") (u := .type "tuple") (by rfl) T.b_tuple (by decide +kernel) rfl) pa_nil))) (pe_and (pe_cmpR op_eq (pe_callB call_len_seq (by rfl) T.b_len (by decide +kernel) (pa_cons (pv 0) pa_nil)) pe_int (nomark _)) (pe_one (pcall D.is_span Gis_span hr (by decide) (by rfl) (pa_cons (pe_ix ix_tup (pv 0) pe_int (fun _ _ => rfl)) (pa_cons (pe_ix ix_tup (pv 0) pe_int (fun _ _ => rfl)) (pa_cons (pe_glob (v := .int 400) (by rfl) T.g_MOST_END ⟨_, rfl⟩) pa_nil))))))))), ?_⟩
    cases st with
    | other h => exact ⟨_, rfl, _, _, rfl, h, _, rfl, iteF k⟩
    | wrong h n =>
      refine ⟨_, rfl, _, _, rfl, .tup (tyX_t h), _, rfl, iteT ⟨_, rfl, _, _, rfl, .inr (SqT.of h), rfl, _, rfl, ?_⟩⟩
      rw [decide_eq_false (fun z => n (by injection z with z; omega))]
      exact iteF k
    | @pair q y z h ty tz =>
      refine ⟨_, rfl, _, _, rfl, .tup (tyX_t h), _, rfl, iteT ⟨_, rfl, _, _, rfl, .inr (SqT.of h), rfl, _, rfl, ?_⟩⟩
      refine iteT ⟨_, rfl, q, _, _, _, rfl, rfl, SqT.of h, atT0 _ _, _, rfl, q, _, _, _, rfl, rfl, SqT.of h, atT1 _ _ _, ?_⟩
      exact ⟨_, _, 400, rfl, ty, tz, k⟩
end
end LL
namespace LL
open PySem PySem.Spec PyProof.Rows L2
def genR : Stmt → Scope
  | .If (.BoolOp _ [_, .UnaryOp _ (.Call _ [.GeneratorExp _ _ sc _] _ _) _] _) _ _ _ => sc
  | _ => { kind := .function, names := [], isGenerator := false, isCoroutine := false }
abbrev gscR : Scope := genR ((defBody scisruns_st).getD 0 (.Pass ⟨0, 0, 0, 0⟩))
theorem gscR_names : gscR.names = [((".0" : Str), NameKind.local), (("stretch" : Str), NameKind.local), (("is_stretch" : Str), NameKind.globalImplicit)] := by decide +kernel
theorem genR_ok {env : Env} : GxR.GenS env gscR "stretch" := by
  refine ⟨by decide +kernel, by decide +kernel, ?_, by decide +kernel, by decide +kernel, ?_⟩
  · rw [gscR_names]
    decide +kernel
  · rw [gscR_names]
    intro y hy e
    simp only [List.mem_cons, List.not_mem_nil, or_false] at hy
    rcases hy with rfl | rfl | rfl <;> cases e
section
variable {P : Program} {w : World} {K : PySem.W.Frag} {mg : Str → Option Value} {base : Heap} {c tb : Addr}
def spIsRuns (K : PySem.W.Frag) (tb : Addr) : Sp := fun vs H Q _ => ∃ (x : V) (b : Bool), vs = [x] ∧ RunsB K H x b ∧ GxR.TabG H tb ∧ ∀ H', Nw tb H H' → Q (.bl b) H'
theorem ok_is_runs (D : Defs K mg) (T : Tx K mg) (hc : D.is_runs.fd.code = .ref c) (TB : GxR.TabB base mg c tb) : FnOk P w K mg base CX0 8 D.is_runs.f D.is_runs.fd ["thing"] (spIsRuns K tb) := by
  have Gruns_in := ok_runs_in (P := P) (w := w) (base := base) D T (tb := tb)
  have Gmask_of := ok_mask_of (P := P) (w := w) (base := base) D T
  have Gis_stretch := ok_is_stretch (P := P) (w := w) (base := base) D T
  refine okC D.is_runs.F hc scisruns (fun vs H Q E h => ?_) (fun A outer s H vs Q E hr h => ?_)
  · obtain ⟨x, b, rfl, _⟩ := h
    rfl
  · obtain ⟨x, b, rfl, ru, tab, k⟩ := h
    have GS := genR_ok (env := envOfC "is_runs" (defScope scisruns_st) s.heap.objs.size D.is_runs.f (.ref c))
    have hcode : (cxOf CX0 P w K mg base scisruns_N "is_runs" (defScope scisruns_st) D.is_runs.f (.ref c) A outer s H E).nox.env.code = .ref c := rfl
    refine ⟨_, (pss_cons (ps_if (PW.pt (pw_or (pt_not (pt_val (pe_callB call_is_list (by rfl) T.b_isinstance (by decide +kernel) (pa_cons (pv 0) (pa_cons (pe_bltn (v := .ty "list") (u := .type "list") (by rfl) T.b_list (by decide +kernel) rfl) pa_nil))))) (pw_or1 (pt_not (pt_val (pe_allL false (k := 4) [] hr (by rfl) T.b_all (by decide +kernel) TB hcode GS (pv 0) (by decide) (fun q hq => by cases hq) (fun cv s H ia A hrA => pcall D.is_stretch Gis_stretch hrA (by decide) (by rfl) (pa_cons (pv 0) pa_nil)) (fun _ => rfl))))))) (pss_one (ps_ret pe_bl)) pss_nil)
        (pss_one (ps_ret (pe_cmpR (op_eqD hr.units) (pcall D.runs_in Gruns_in hr (by decide) (by rfl) (pa_cons (pcall D.mask_of Gmask_of hr (by decide) (by rfl) (pa_cons (pv 0) pa_nil)) pa_nil)) (pv 0) (nomark _))))), ?_⟩
    -- the walk over the items
    have turn : ∀ (xs : List V) (bs : List Bool), StBs K H xs bs → ∀ (i : Nat) (v : V) (H' : Hp) (Q' : Hp → Prop), xs[i]? = some v → (GxR.Tabbed tb H H' ∧ ∀ j, j < i → bs[j]? = some true) →
        (bs.all id = false → Q' H') →
        (tCall (spStretch K) [] E0 (tCons (tVar 0) tNil)) [some v] H' fun y H'' => ∃ b, y = .bl b ∧ if b = true then (GxR.Tabbed tb H H'' ∧ ∀ j, j < i + 1 → bs[j]? = some true) else Q' H'' := by
      intro xs bs sts i v H' Q' hv ⟨t2, up⟩ no
      obtain ⟨b, hb, st⟩ := sts.get hv
      refine ⟨_, rfl, v, b, rfl, st.keep (Nw.of tab t2).keep, b, rfl, ?_⟩
      cases b with
      | true =>
        refine iteT ⟨t2, fun j hj => ?_⟩
        rcases Nat.lt_succ_iff_lt_or_eq.mp hj with l | rfl
        · exact up j l
        · exact hb
      | false =>
        refine iteF (no ?_)
        rw [List.all_eq_false]
        exact ⟨false, List.mem_of_getElem? hb, by simp⟩
    cases ru with
    | other h => exact ⟨_, rfl, _, _, rfl, h, _, rfl, iteT (k H (Nw.refl tab))⟩
    | @wrong a xs bs h sts n =>
      refine ⟨_, rfl, _, _, rfl, .lst (tyX_l h), _, rfl, iteF ?_⟩
      refine ⟨_, rfl, a, xs, rfl, SqL.of h, tab, fun i H' => GxR.Tabbed tb H H' ∧ ∀ j, j < i → bs[j]? = some true, fun H2 t2 => ⟨t2, fun j hj => absurd hj (Nat.not_lt_zero j)⟩,
        fun i H' p => SqL.of ((Nw.of tab p.1).lst h), fun i v H' hv p => turn xs bs sts i v H' _ hv p fun _ => ?_, fun H' p => ?_⟩
      · exact ⟨_, rfl, iteT (k _ (Nw.of tab p.1))⟩
      · exfalso
        rw [List.all_eq_false] at n
        obtain ⟨b, hb, nb⟩ := n
        obtain ⟨j, hj⟩ := List.mem_iff_getElem?.mp hb
        have := p.2 j (by rw [sts.len]; exact (List.getElem?_eq_some_iff.mp hj).1)
        rw [hj] at this
        cases this
        exact nb rfl
    | @row a r h v =>
      obtain ⟨qs, ha, pr⟩ := id h
      have sts := pr.sts (K := K) v
      refine ⟨_, rfl, _, _, rfl, .lst (tyX_l ha), _, rfl, iteF ?_⟩
      refine ⟨_, rfl, a, _, rfl, SqL.of ha, tab, fun i H' => GxR.Tabbed tb H H' ∧ ∀ j, j < i → (r.map fun _ => true)[j]? = some true, fun H2 t2 => ⟨t2, fun j hj => absurd hj (Nat.not_lt_zero j)⟩,
        fun i H' p => SqL.of ((Nw.of tab p.1).lst ha), fun i v H' hv p => turn _ _ sts i v H' _ hv p fun z => ?_, fun H' p => ?_⟩
      · exfalso
        rw [List.all_eq_false] at z
        obtain ⟨b, hb, nb⟩ := z
        obtain ⟨_, _, rfl⟩ := List.mem_map.mp hb
        exact nb rfl
      · have n1 := Nw.of tab p.1
        refine ⟨_, rfl, iteF ?_⟩
        refine ⟨_, rfl, a, r, rfl, h.nw n1, v, maskN r, rfl, mask_lt v, n1.tab, fun c' p' H2 tc hh nw hp row => ?_⟩
        have n2 := n1.trans nw
        refine ⟨_, rfl, rowDat c', rowDat r, row.dp, (h.nw n2).dp, rowDat_shaped _, rowDat_shaped _, ?_⟩
        have e : PyData.eqv (rowDat c') (rowDat r) = decide (Tidy r) := by
          rw [rowDat_eqv, decide_eq_decide]
          constructor
          · intro z
            rw [← z]
            exact tc
          · intro z
            exact tidy_eq tc z fun n => by rw [hh, mask_bit v]
        rw [e]
        exact k H2 n2
def spMaskTidy (K : PySem.W.Frag) (tb : Addr) : Sp := fun vs H Q _ => ∃ (a : Addr) (r : List Pr), vs = [.ref a] ∧ RowAt H a r ∧ Tidy r ∧ GxR.TabG H tb ∧ ∀ H', Nw tb H H' → Q (.int (maskN r : Nat)) H'
theorem ok_mask_of_tidy (D : Defs K mg) (T : Tx K mg) (hc : D.is_runs.fd.code = .ref c) (TB : GxR.TabB base mg c tb) : FnOk P w K mg base CX0 9 D.mask_of_tidy.f D.mask_of_tidy.fd ["runs"] (spMaskTidy K tb) := by
  have Gmask_of := ok_mask_of (P := P) (w := w) (base := base) D T
  have Gis_runs := ok_is_runs (P := P) (w := w) (base := base) D T hc TB
  refine D.mask_of_tidy.F.ok scmaskoftidy (fun vs H Q E h => ?_) (fun cdv A outer s H vs Q E hr h => ?_)
  · obtain ⟨a, r, rfl, _⟩ := h
    rfl
  · obtain ⟨a, r, rfl, row, ti, tab, k⟩ := h
    have va := TidyFrom.valid (b := 0) ti
    refine ⟨_, (pss_cons (ps_if (pt_not (pt_val (pcall D.is_runs Gis_runs hr (by decide) (by rfl) (pa_cons (pv 0) pa_nil)))) (pss_one ps_never) pss_nil)
        (pss_one (ps_ret (pcall D.mask_of Gmask_of hr (by decide) (by rfl) (pa_cons (pv 0) pa_nil))))), ?_⟩
    have ru : RunsB K H (.ref a) true := by
      have := RunsB.row (K := K) row va
      rw [decide_eq_true ti] at this
      exact this
    refine ⟨_, rfl, _, _, rfl, ru, tab, fun H' n => ⟨_, rfl, iteF ?_⟩⟩
    exact ⟨_, rfl, a, r, rfl, row.nw n, va, k H' n⟩
/-- two tidy rows, what comes of them -/
def spTwo (K : PySem.W.Frag) (tb : Addr) (f : Bool → Bool → Bool) : Sp := fun vs H Q _ => ∃ (a b : Addr) (r q : List Pr), vs = [.ref a, .ref b] ∧ RowAt H a r ∧ RowAt H b q ∧ Tidy r ∧ Tidy q ∧ GxR.TabG H tb ∧
  ∀ (t : List Pr) (p : Addr) (H' : Hp), Tidy t → (∀ n, has t n = f (has r n) (has q n)) → Nw tb H H' → H p = none → RowAt H' p t → Q (.ref p) H'
theorem ok_joined_runs (D : Defs K mg) (T : Tx K mg) (hc : D.is_runs.fd.code = .ref c) (TB : GxR.TabB base mg c tb) : FnOk P w K mg base CX0 10 D.joined_runs.f D.joined_runs.fd ["one", "other"] (spTwo K tb fun x y => x || y) := by
  have Gmask_of_tidy := ok_mask_of_tidy (P := P) (w := w) (base := base) D T hc TB
  have Gruns_in := ok_runs_in (P := P) (w := w) (base := base) D T (tb := tb)
  refine D.joined_runs.F.ok scjoinedruns (fun vs H Q E h => ?_) (fun cdv A outer s H vs Q E hr h => ?_)
  · obtain ⟨a, b, r, q, rfl, _⟩ := h
    rfl
  · obtain ⟨a, b, r, q, rfl, ra, rb, tr, tq, tab, k⟩ := h
    have vr := TidyFrom.valid (b := 0) tr
    have vq := TidyFrom.valid (b := 0) tq
    refine ⟨_, (pss_cons (ps_set (i := 2) scjoinedruns.nd rfl (Or.inl rfl) (pcall D.mask_of_tidy Gmask_of_tidy hr (by decide) (by rfl) (pa_cons (pv 0) pa_nil)))
        (pss_cons (ps_set (i := 3) scjoinedruns.nd rfl (Or.inl rfl) (pcall D.mask_of_tidy Gmask_of_tidy hr (by decide) (by rfl) (pa_cons (pv 1) pa_nil)))
        (pss_one (ps_ret (pcall D.runs_in Gruns_in hr (by decide) (by rfl) (pa_cons (pe_op op_or (pv 2) (pv 3)) pa_nil)))))), ?_⟩
    refine ⟨_, rfl, a, r, rfl, ra, tr, tab, fun H1 n1 => ?_⟩
    refine ⟨_, rfl, b, q, rfl, rb.nw n1, tq, n1.tab, fun H2 n2 => ?_⟩
    have bit : ∀ n, (maskN r ||| maskN q).testBit n = (has r n || has q n) := fun n => by rw [Nat.testBit_or, mask_bit vr, mask_bit vq]
    refine ⟨_, rfl, _, rfl, _, _, rfl, rfl, maskN r ||| maskN q, congrArg (fun y : Int => [V.int y]) (or_masks _ _), lt_of_bits fun n z => ?_, n2.tab, fun t p H' tt hh nw hp row => ?_⟩
    · rw [bit] at z
      rcases Bool.or_eq_true_iff.mp z with z | z
      · exact has_lt vr z
      · exact has_lt vq z
    · exact k t p H' tt (fun n => by rw [hh, bit]) ((n1.trans n2).trans nw) ((n1.trans n2).free hp) row
theorem ok_common_runs (D : Defs K mg) (T : Tx K mg) (hc : D.is_runs.fd.code = .ref c) (TB : GxR.TabB base mg c tb) : FnOk P w K mg base CX0 10 D.common_runs.f D.common_runs.fd ["one", "other"] (spTwo K tb fun x y => x && y) := by
  have Gmask_of_tidy := ok_mask_of_tidy (P := P) (w := w) (base := base) D T hc TB
  have Gruns_in := ok_runs_in (P := P) (w := w) (base := base) D T (tb := tb)
  refine D.common_runs.F.ok sccommonruns (fun vs H Q E h => ?_) (fun cdv A outer s H vs Q E hr h => ?_)
  · obtain ⟨a, b, r, q, rfl, _⟩ := h
    rfl
  · obtain ⟨a, b, r, q, rfl, ra, rb, tr, tq, tab, k⟩ := h
    have vr := TidyFrom.valid (b := 0) tr
    have vq := TidyFrom.valid (b := 0) tq
    refine ⟨_, (pss_cons (ps_set (i := 2) sccommonruns.nd rfl (Or.inl rfl) (pcall D.mask_of_tidy Gmask_of_tidy hr (by decide) (by rfl) (pa_cons (pv 0) pa_nil)))
        (pss_cons (ps_set (i := 3) sccommonruns.nd rfl (Or.inl rfl) (pcall D.mask_of_tidy Gmask_of_tidy hr (by decide) (by rfl) (pa_cons (pv 1) pa_nil)))
        (pss_one (ps_ret (pcall D.runs_in Gruns_in hr (by decide) (by rfl) (pa_cons (pe_op op_and (pv 2) (pv 3)) pa_nil)))))), ?_⟩
    refine ⟨_, rfl, a, r, rfl, ra, tr, tab, fun H1 n1 => ?_⟩
    refine ⟨_, rfl, b, q, rfl, rb.nw n1, tq, n1.tab, fun H2 n2 => ?_⟩
    have bit : ∀ n, (maskN r &&& maskN q).testBit n = (has r n && has q n) := fun n => by rw [Nat.testBit_and, mask_bit vr, mask_bit vq]
    refine ⟨_, rfl, _, rfl, _, _, rfl, rfl, maskN r &&& maskN q, congrArg (fun y : Int => [V.int y]) (and_masks _ _), lt_of_bits fun n z => ?_, n2.tab, fun t p H' tt hh nw hp row => ?_⟩
    · rw [bit] at z
      exact has_lt vr (Bool.and_eq_true_iff.mp z).1
    · exact k t p H' tt (fun n => by rw [hh, bit]) ((n1.trans n2).trans nw) ((n1.trans n2).free hp) row
theorem ok_less_runs (D : Defs K mg) (T : Tx K mg) (hc : D.is_runs.fd.code = .ref c) (TB : GxR.TabB base mg c tb) : FnOk P w K mg base CX0 10 D.less_runs.f D.less_runs.fd ["one", "other"] (spTwo K tb fun x y => x && !y) := by
  have Gmask_of_tidy := ok_mask_of_tidy (P := P) (w := w) (base := base) D T hc TB
  have Gruns_in := ok_runs_in (P := P) (w := w) (base := base) D T (tb := tb)
  refine D.less_runs.F.ok sclessruns (fun vs H Q E h => ?_) (fun cdv A outer s H vs Q E hr h => ?_)
  · obtain ⟨a, b, r, q, rfl, _⟩ := h
    rfl
  · obtain ⟨a, b, r, q, rfl, ra, rb, tr, tq, tab, k⟩ := h
    have vr := TidyFrom.valid (b := 0) tr
    have vq := TidyFrom.valid (b := 0) tq
    refine ⟨_, (pss_cons (ps_set (i := 2) sclessruns.nd rfl (Or.inl rfl) (pcall D.mask_of_tidy Gmask_of_tidy hr (by decide) (by rfl) (pa_cons (pv 0) pa_nil)))
        (pss_cons (ps_set (i := 3) sclessruns.nd rfl (Or.inl rfl) (pcall D.mask_of_tidy Gmask_of_tidy hr (by decide) (by rfl) (pa_cons (pv 1) pa_nil)))
        (pss_one (ps_ret (pcall D.runs_in Gruns_in hr (by decide) (by rfl) (pa_cons (pe_op op_and (pv 2) (pe_un un_inv (pv 3))) pa_nil)))))), ?_⟩
    refine ⟨_, rfl, a, r, rfl, ra, tr, tab, fun H1 n1 => ?_⟩
    refine ⟨_, rfl, b, q, rfl, rb.nw n1, tq, n1.tab, fun H2 n2 => ?_⟩
    have bit : ∀ n, (maskN r - (maskN r &&& maskN q)).testBit n = (has r n && !has q n) := fun n => by rw [less_bit, mask_bit vr, mask_bit vq]
    refine ⟨_, rfl, _, rfl, _, rfl, _, _, rfl, rfl, maskN r - (maskN r &&& maskN q), congrArg (fun y : Int => [V.int y]) (less_masks _ _), lt_of_bits fun n z => ?_, n2.tab, fun t p H' tt hh nw hp row => ?_⟩
    · rw [bit] at z
      exact has_lt vr (Bool.and_eq_true_iff.mp z).1
    · exact k t p H' tt (fun n => by rw [hh, bit]) ((n1.trans n2).trans nw) ((n1.trans n2).free hp) row
end
end LL
namespace LL
open PySem PySem.Spec PyProof.Rows L2
section
variable {P : Program} {w : World} {K : PySem.W.Frag} {mg : Str → Option Value} {base : Heap} {c tb : Addr}
def spCell (K : PySem.W.Frag) : Sp := fun vs H Q _ => ∃ (a : Addr) (k : Nat) (ns : List Int), vs = [.ref a, .int k] ∧ SqL K H a (ns.map V.int) ∧ ∀ i : Int, Q (.int i) H
theorem ok__law_cell_at (D : Defs K mg) (T : Tx K mg) : FnOk P w K mg base CX0 1 D._law_cell_at.f D._law_cell_at.fd ["_law_script", "_law_k"] (spCell K) := by
  refine D._law_cell_at.F.ok scLcellat (fun vs H Q E h => ?_) (fun cdv A outer s H vs Q E hr h => ?_)
  · obtain ⟨a, k, ns, rfl, _⟩ := h
    rfl
  · obtain ⟨a, j, ns, rfl, hS, k⟩ := h
    refine ⟨_, (pss_cons (ps_if (pt_cmpR op_lt (pv 1) (pe_callB call_len_seq (by rfl) T.b_len (by decide +kernel) (pa_cons (pv 0) pa_nil)) (nomark _)) (pss_one (ps_ret (pe_ix ix_list (pv 0) (pv 1) (fun _ _ => rfl)))) pss_nil)
        (pss_one (ps_ret (pe_op op_add (pe_op op_mul pe_int (pv 1)) pe_int)))), ?_⟩
    refine ⟨_, rfl, _, rfl, a, _, rfl, .inl hS, _, _, rfl, rfl, _, rfl, ?_⟩
    refine ite2 (fun y => ?_) (fun _ => ?_)
    · have hj : j < ns.length := by
        have := of_decide_eq_true y
        rw [List.length_map] at this
        omega
      refine ⟨_, rfl, _, rfl, a, _, _, _, rfl, rfl, hS, atI_nat (v := .int ns[j]) ?_, k _⟩
      rw [List.getElem?_map, List.getElem?_eq_getElem hj]
      rfl
    · exact ⟨_, rfl, _, _, rfl, rfl, .inl ⟨by decide, by decide⟩, _, _, rfl, rfl, k _⟩
def spBox : Sp := fun vs H Q _ => ∃ i : Int, vs = [.int i] ∧ ∀ p o, H p = none → BoxO o → Q (.ref p) (upd H p o)
theorem ok__law_box (D : Defs K mg) (T : Tx K mg) : FnOk P w K mg base CX0 1 D._law_box.f D._law_box.fd ["_law_cell"] spBox := by
  refine D._law_box.F.ok scLbox (fun vs H Q E h => ?_) (fun cdv A outer s H vs Q E hr h => ?_)
  · obtain ⟨i, rfl, _⟩ := h
    rfl
  · obtain ⟨i, rfl, k⟩ := h
    have m0 : 0 ≤ i % 2147483629 := Int.emod_nonneg _ (by decide)
    have m1 : i % 2147483629 < 2147483629 := Int.emod_lt_of_pos _ (by decide)
    refine ⟨_, (pss_cons (ps_if (pt_cmpR op_ge (pv 0) (pe_op op_pow pe_int pe_int) (nomark _)) (pss_one (ps_ret (pe_lst (pa_cons (pv 0) (pa_cons (pe_op op_mod (pv 0) pe_int) (pa_cons pe_int pa_nil)))))) pss_nil)
        (pss_one (ps_ret (pe_lst (pa_cons pe_int (pa_cons (pe_op op_mod (pv 0) pe_int) (pa_cons pe_int pa_nil))))))), ?_⟩
    refine ⟨_, rfl, _, _, rfl, rfl, ⟨by decide, by decide, by decide⟩, _, _, rfl, rfl, _, rfl, ?_⟩
    refine ite2 (fun y => ?_) (fun _ => ?_)
    · have y1 := of_decide_eq_true y
      have y0 : 0 ≤ i := Int.le_trans (by decide) y1
      exact ⟨_, rfl, _, rfl, _, _, rfl, rfl, (by show (0 : Int) < 2147483629; decide), (by show 3 ≤ sizeLine; decide), fun p hp => k p _ hp ⟨i, _, 0, rfl, y0, m0, by omega⟩⟩
    · exact ⟨_, rfl, _, _, rfl, rfl, (by show (0 : Int) < 2147483629; decide), (by show 3 ≤ sizeLine; decide), fun p hp => k p _ hp ⟨0, _, 0, rfl, Int.le_refl _, m0, by omega⟩⟩
def spTake : Sp := fun vs H Q _ => ∃ (a : Addr) (o : HO) (m : Int), vs = [.ref a, .int m] ∧ H a = some o ∧ BoxO o ∧ 0 < m ∧ m < 1073741824 ∧
  ∀ r o', 0 ≤ r → r < m → BoxO o' → Q (.int r) (upd H a o')
theorem ok__law_take (D : Defs K mg) (T : Tx K mg) : FnOk P w K mg base CX0 1 D._law_take.f D._law_take.fd ["_law_box_here", "_law_many"] spTake := by
  refine D._law_take.F.ok scLtake (fun vs H Q E h => ?_) (fun cdv A outer s H vs Q E hr h => ?_)
  · obtain ⟨a, o, m, rfl, _⟩ := h
    rfl
  · obtain ⟨a, o, m, rfl, hb, ⟨x, b, n, rfl, x0, b0, b1⟩, m0, m1, k⟩ := h
    have hS : SqL K H a [.int x, .int b, .int n] := SqL.of hb
    refine ⟨_, (pss_cons (ps_if (pt_cmpR op_gt (pe_ix ix_list (pv 0) pe_int (fun _ _ => rfl)) pe_int (nomark _)) (pss_cons (ps_set (i := 2) scLtake.nd rfl (Or.inl rfl) (pe_op op_mod (pe_ix ix_list (pv 0) pe_int (fun _ _ => rfl)) (pv 1)))
        (pss_cons (ps_asg (pe_op op_fdiv (pe_ix ix_list (pv 0) pe_int (fun _ _ => rfl)) (pv 1)) (pg_sub (pv 0) pe_int set_list))
        (pss_one (ps_ret (pv 2))))) pss_nil)
        (pss_cons (ps_asg (pe_op op_add (pe_ix ix_list (pv 0) pe_int (fun _ _ => rfl)) pe_int) (pg_sub (pv 0) pe_int set_list))
        (pss_cons (ps_set (i := 2) scLtake.nd rfl (Or.inl rfl) (pe_op op_mod (pe_op op_add (pe_op op_add (pe_op op_mul (pe_ix ix_list (pv 0) pe_int (fun _ _ => rfl)) pe_int) (pe_op op_mul pe_int (pe_ix ix_list (pv 0) pe_int (fun _ _ => rfl)))) pe_int) pe_int))
        (pss_cons (ps_set (i := 2) scLtake.nd rfl (Or.inl rfl) (pe_op op_mod (pe_op op_add (pe_op op_add (pe_op op_mul (pv 2) (pv 2)) (pe_op op_mul pe_int (pe_ix ix_list (pv 0) pe_int (fun _ _ => rfl)))) pe_int) pe_int))
        (pss_one (ps_ret (pe_op op_mod (pe_op op_mod (pe_op op_mul (pv 2) (pv 2)) pe_int) (pv 1)))))))), ?_⟩
    refine ⟨_, rfl, a, _, _, _, rfl, rfl, hS, at0 _ _ _, _, _, rfl, rfl, _, rfl, ?_⟩
    refine ite2 (fun _ => ?_) (fun _ => ?_)
    · refine ⟨_, rfl, a, _, _, _, rfl, rfl, hS, at0 _ _ _, _, rfl, _, _, rfl, rfl, m0, ?_⟩
      refine ⟨_, rfl, a, _, _, _, rfl, rfl, hS, at0 _ _ _, _, rfl, _, _, rfl, rfl, ⟨m0, m1⟩, ?_⟩
      refine ⟨_, rfl, a, _, _, 0, rfl, rfl, hb, rfl, ?_⟩
      exact ⟨_, rfl, k _ _ (Int.emod_nonneg _ (by omega)) (Int.emod_lt_of_pos _ m0) ⟨_, _, _, rfl, Int.ediv_nonneg x0 (by omega), b0, b1⟩⟩
    · refine ⟨_, rfl, a, _, _, _, rfl, rfl, hS, at2 _ _ _, _, _, rfl, rfl, ?_⟩
      refine ⟨_, rfl, a, _, _, 2, rfl, rfl, hb, rfl, ?_⟩
      have hb2 : (upd H a (.lst [.int x, .int b, .int (n + 1)])) a = some (.lst [.int x, .int b, .int (n + 1)]) := upd_same
      have hS2 : SqL K (upd H a (.lst [.int x, .int b, .int (n + 1)])) a [.int x, .int b, .int (n + 1)] := SqL.of hb2
      refine ⟨_, rfl, a, _, _, _, rfl, rfl, hS2, at1 _ _ _, _, _, rfl, rfl, .inr ⟨by decide, by decide⟩, ?_⟩
      refine ⟨_, rfl, a, _, _, _, rfl, rfl, hS2, at2 _ _ _, _, _, rfl, rfl, .inl ⟨by decide, by decide⟩, _, _, rfl, rfl, _, _, rfl, rfl, _, _, rfl, rfl, (by show (0 : Int) < 2147483647; decide), ?_⟩
      generalize hN : (b * 48271 + 7919 * (n + 1) + 101) % 2147483647 = N
      have N0 : 0 ≤ N := by rw [← hN]; exact Int.emod_nonneg _ (by decide)
      have N1 : N < 2147483647 := by rw [← hN]; exact Int.emod_lt_of_pos _ (by decide)
      refine ⟨_, rfl, _, rfl, _, _, rfl, rfl, .inl ⟨by omega, by omega⟩, _, rfl, a, _, _, _, rfl, rfl, hS2, at2 _ _ _, _, _, rfl, rfl, .inl ⟨by decide, by decide⟩, _, _, rfl, rfl, _, _, rfl, rfl, _, _, rfl, rfl, (by show (0 : Int) < 2147483629; decide), ?_⟩
      generalize hM : (N * N + 104729 * (n + 1) + 7) % 2147483629 = M
      have M0 : 0 ≤ M := by rw [← hM]; exact Int.emod_nonneg _ (by decide)
      have M1 : M < 2147483629 := by rw [← hM]; exact Int.emod_lt_of_pos _ (by decide)
      refine ⟨_, rfl, _, rfl, _, _, rfl, rfl, .inl ⟨by omega, by omega⟩, _, _, rfl, rfl, (by show (0 : Int) < 2147483587; decide), _, rfl, _, _, rfl, rfl, m0, ?_⟩
      exact k _ _ (Int.emod_nonneg _ (by omega)) (Int.emod_lt_of_pos _ m0) ⟨_, _, _, rfl, x0, b0, b1⟩

theorem four_at {x0 x1 x2 x3 : V} {r : Int} (h0 : 0 ≤ r) (h1 : r < 4) : ∃ v, atI [x0, x1, x2, x3] r = some v ∧ (v = x0 ∨ v = x1 ∨ v = x2 ∨ v = x3) := by
  have : r = 0 ∨ r = 1 ∨ r = 2 ∨ r = 3 := by omega
  rcases this with rfl | rfl | rfl | rfl
  · exact ⟨x0, atI_nat (j := 0) rfl, .inl rfl⟩
  · exact ⟨x1, atI_nat (j := 1) rfl, .inr (.inl rfl)⟩
  · exact ⟨x2, atI_nat (j := 2) rfl, .inr (.inr (.inl rfl))⟩
  · exact ⟨x3, atI_nat (j := 3) rfl, .inr (.inr (.inr rfl))⟩
theorem three_at {x0 x1 x2 : V} {r : Int} (h0 : 0 ≤ r) (h1 : r < 3) : ∃ v, atI [x0, x1, x2] r = some v ∧ (v = x0 ∨ v = x1 ∨ v = x2) := by
  have : r = 0 ∨ r = 1 ∨ r = 2 := by omega
  rcases this with rfl | rfl | rfl
  · exact ⟨x0, atI_nat (j := 0) rfl, .inl rfl⟩
  · exact ⟨x1, atI_nat (j := 1) rfl, .inr (.inl rfl)⟩
  · exact ⟨x2, atI_nat (j := 2) rfl, .inr (.inr rfl)⟩
def spStretches : Sp := fun vs H Q _ => ∃ (a : Addr) (o : HO) (m : Int), vs = [.ref a, .int m] ∧ H a = some o ∧ BoxO o ∧ 0 < m ∧ m ≤ 400 ∧
  ∀ (r : List Pr) (p : Addr) (H' : Hp), Valid r → Kept a H H' → H p = none → RowAt H' p r → Q (.ref p) H'
theorem ok__law_stretches (D : Defs K mg) (T : Tx K mg) : FnOk P w K mg base CX0 2 D._law_stretches.f D._law_stretches.fd ["_law_box_here", "_law_most"] spStretches := by
  have G_law_take := ok__law_take (P := P) (w := w) (base := base) D T
  refine D._law_stretches.F.ok scLstretches (fun vs H Q E h => ?_) (fun cdv A outer s H vs Q E hr h => ?_)
  · obtain ⟨a, o, m, rfl, _⟩ := h
    rfl
  · obtain ⟨a, o, m, rfl, ha, hB, m0, m4, k⟩ := h
    refine ⟨_, (pss_cons (ps_set (i := 2) scLstretches.nd rfl (Or.inl rfl) (pe_lst pa_nil))
        (pss_cons (ps_for PassesOwn.never rfl (pi_range1 rfl T.b_range (pa_cons (pcall D._law_take G_law_take hr (by decide) (by rfl) (pa_cons (pv 0) (pa_cons (pe_ix ix_list (pe_lst (pa_cons pe_int (pa_cons pe_int (pa_cons pe_int pa_nil)))) (pcall D._law_take G_law_take hr (by decide) (by rfl) (pa_cons (pv 0) (pa_cons pe_int pa_nil))) (fun _ _ => rfl)) pa_nil))) pa_nil)) (pg_name (i := 3) scLstretches.nd rfl (Or.inl rfl)) (pss_cons (ps_set (i := 4) scLstretches.nd rfl (Or.inl rfl) (pe_ix ix_list (pe_lst (pa_cons pe_int (pa_cons (pcall D._law_take G_law_take hr (by decide) (by rfl) (pa_cons (pv 0) (pa_cons (pv 1) pa_nil))) (pa_cons (pcall D._law_take G_law_take hr (by decide) (by rfl) (pa_cons (pv 0) (pa_cons (pv 1) pa_nil))) (pa_cons pe_int pa_nil))))) (pcall D._law_take G_law_take hr (by decide) (by rfl) (pa_cons (pv 0) (pa_cons pe_int pa_nil))) (fun _ _ => rfl)))
        (pss_cons (ps_set (i := 5) scLstretches.nd rfl (Or.inl rfl) (pe_ix ix_list (pe_lst (pa_cons pe_int (pa_cons pe_int (pa_cons pe_int (pa_cons pe_int pa_nil))))) (pcall D._law_take G_law_take hr (by decide) (by rfl) (pa_cons (pv 0) (pa_cons pe_int pa_nil))) (fun _ _ => rfl)))
        (pss_one (ps_expr (pe_bm PySem.F.plainAttrs_list PySem.F.slot_list_append PySem.F.type_list_append mt_append (pv 2) (pa_cons (pe_tup (pa_cons (pv 4) (pa_cons (pe_callB (call_min2 rfl) (by rfl) T.b_min (by decide +kernel) (pa_cons pe_int (pa_cons (pe_op op_add (pe_op op_add (pv 4) pe_int) (pcall D._law_take G_law_take hr (by decide) (by rfl) (pa_cons (pv 0) (pa_cons (pv 5) pa_nil)))) pa_nil))) pa_nil))) pa_nil)))))))
        (pss_one (ps_ret (pv 2))))), ?_⟩
    refine ⟨(by show 0 ≤ sizeLine; decide), fun f hf => ?_⟩
    have nf := ne_of_none ha hf
    refine ⟨_, rfl, (by show 3 ≤ sizeLine; decide), fun q hq => ?_⟩
    have ha1 : (upd (upd H f (.lst [])) q (.lst [.int 4, .int 9, .int 30])) a = some o := by
      have : (upd H f (.lst [])) a = some o := by rw [upd_ne nf]; exact ha
      rw [upd_ne (ne_of_none this hq)]
      exact this
    have x1 : Exd H (upd (upd H f (.lst [])) q (.lst [.int 4, .int 9, .int 30])) := ((Exd.refl H).new hf).new hq
    have f1 : (upd (upd H f (.lst [])) q (.lst [.int 4, .int 9, .int 30])) f = some (.lst []) := by
      rw [upd_ne (ne_of_none (upd_same) hq)]
      exact upd_same
    have q1 : (upd (upd H f (.lst [])) q (.lst [.int 4, .int 9, .int 30])) q = some (.lst [.int 4, .int 9, .int 30]) := upd_same
    generalize upd (upd H f (.lst [])) q (.lst [.int 4, .int 9, .int 30]) = H1 at ha1 x1 f1 q1 ⊢
    refine ⟨_, rfl, a, o, 3, rfl, ha1, hB, by decide, by decide, fun r o1 r0 r3 B1 => ?_⟩
    obtain ⟨v, hv, hv2⟩ := three_at (x0 := .int 4) (x1 := .int 9) (x2 := .int 30) r0 r3
    obtain ⟨n, rfl, n0, n30⟩ : ∃ n : Int, v = .int n ∧ 0 < n ∧ n ≤ 30 := by
      rcases hv2 with rfl | rfl | rfl
      · exact ⟨4, rfl, by decide, by decide⟩
      · exact ⟨9, rfl, by decide, by decide⟩
      · exact ⟨30, rfl, by decide, by decide⟩
    have qa : q ≠ a := fun z => by
      rw [z] at hq
      rw [upd_ne nf, ha] at hq
      cases hq
    refine ⟨q, _, _, _, rfl, rfl, SqL.of (by rw [upd_ne qa]; exact q1), hv, ?_⟩
    refine ⟨a, o1, n, rfl, upd_same, B1, n0, by omega, fun t o2 t0 tn B2 => ?_⟩
    rw [upd_upd]
    refine ⟨t, rfl, by omega, by omega, for_range (lo := 0) (n := t.toNat) (fun i σ H' => ∃ (r : List Pr) (v3 v4 v5 : Option V), σ = [some (.ref a), some (.int m), some (.ref f), v3, v4, v5] ∧ Valid r ∧ r.length ≤ i ∧ Kept a H H' ∧ RowAt H' f r)
      ⟨[], none, none, none, rfl, (fun z hz => nomatch hz), Nat.le_refl _, ?_, ⟨[], ?_, .nil⟩⟩ ?_ ?_⟩
    · exact (x1.kept ⟨o, ha, hB⟩).trans (Kept.upd B2)
    · rw [upd_ne (fun z => by rw [z, ha] at hf; cases hf)]
      exact f1
    · rintro i σ H' hi ⟨r, v3, v4, v5, rfl, va, rl, kp, row⟩
      -- four numbers, one is drawn
      obtain ⟨⟨o3, a3, B3⟩, old3⟩ := id kp
      refine ⟨_, rfl, _, rfl, a, o3, m, rfl, a3, B3, m0, by omega, fun y1 o4 y10 y11 B4 => ?_⟩
      refine ⟨_, rfl, _, rfl, a, o4, m, rfl, upd_same, B4, m0, by omega, fun y2 o5 y20 y21 B5 => ?_⟩
      rw [upd_upd]
      refine ⟨(by show 4 ≤ sizeLine; decide), fun q2 hq2 => ?_⟩
      have k5 := (kp.trans (Kept.upd (o := o5) B5)).new hq2 (u := .lst [.int 0, .int y1, .int y2, .int 399])
      have row5 : RowAt (upd (upd H' a o5) q2 (.lst [.int 0, .int y1, .int y2, .int 399])) f r := (Exd.refl _).new hq2 |>.row (row.kept ⟨o3, a3, B3⟩ (Kept.upd B5))
      have e5 : (upd (upd H' a o5) q2 (.lst [.int 0, .int y1, .int y2, .int 399])) q2 = some (.lst [.int 0, .int y1, .int y2, .int 399]) := upd_same
      have n5 : q2 ≠ a := fun z => by rw [z, upd_same] at hq2; cases hq2
      generalize upd (upd H' a o5) q2 (.lst [.int 0, .int y1, .int y2, .int 399]) = H5 at k5 row5 e5 ⊢
      obtain ⟨o6, a6, B6⟩ := k5.box
      refine ⟨_, rfl, a, o6, 4, rfl, a6, B6, by decide, by decide, fun y3 o7 y30 y31 B7 => ?_⟩
      obtain ⟨v, hv, hv2⟩ := four_at (x0 := .int 0) (x1 := .int y1) (x2 := .int y2) (x3 := .int 399) y30 y31
      obtain ⟨b, rfl, b4⟩ : ∃ b : Nat, v = .int (b : Int) ∧ b < 400 := by
        rcases hv2 with rfl | rfl | rfl | rfl
        · exact ⟨0, rfl, by decide⟩
        · exact ⟨y1.toNat, by rw [Int.toNat_of_nonneg y10], by omega⟩
        · exact ⟨y2.toNat, by rw [Int.toNat_of_nonneg y20], by omega⟩
        · exact ⟨399, rfl, by decide⟩
      refine ⟨q2, _, _, _, rfl, rfl, SqL.of (by rw [upd_ne n5]; exact e5), hv, ?_⟩
      have k7 := k5.trans (Kept.upd (o := o7) B7)
      have row7 : RowAt (upd H5 a o7) f r := row5.kept ⟨o6, a6, B6⟩ (Kept.upd B7)
      have a7 : (upd H5 a o7) a = some o7 := upd_same
      generalize upd H5 a o7 = H7 at k7 row7 a7 ⊢
      -- how wide
      refine ⟨(by show 4 ≤ sizeLine; decide), fun q3 hq3 => ?_⟩
      have k8 := k7.new hq3 (u := .lst [.int 1, .int 2, .int 5, .int 400])
      have row8 : RowAt (upd H7 q3 (.lst [.int 1, .int 2, .int 5, .int 400])) f r := (Exd.refl _).new hq3 |>.row row7
      have e8 : (upd H7 q3 (.lst [.int 1, .int 2, .int 5, .int 400])) q3 = some (.lst [.int 1, .int 2, .int 5, .int 400]) := upd_same
      have n8 : q3 ≠ a := fun z => by rw [z, a7] at hq3; cases hq3
      generalize upd H7 q3 (.lst [.int 1, .int 2, .int 5, .int 400]) = H8 at k8 row8 e8 ⊢
      obtain ⟨o8, a8, B8⟩ := k8.box
      refine ⟨_, rfl, a, o8, 4, rfl, a8, B8, by decide, by decide, fun y4 o9 y40 y41 B9 => ?_⟩
      obtain ⟨v', hv', hv2'⟩ := four_at (x0 := .int 1) (x1 := .int 2) (x2 := .int 5) (x3 := .int 400) y40 y41
      obtain ⟨w', rfl, w0, w4⟩ : ∃ w : Int, v' = .int w ∧ 0 < w ∧ w ≤ 400 := by
        rcases hv2' with rfl | rfl | rfl | rfl
        · exact ⟨1, rfl, by decide, by decide⟩
        · exact ⟨2, rfl, by decide, by decide⟩
        · exact ⟨5, rfl, by decide, by decide⟩
        · exact ⟨400, rfl, by decide, by decide⟩
      refine ⟨q3, _, _, _, rfl, rfl, SqL.of (by rw [upd_ne n8]; exact e8), hv', ?_⟩
      have k9 := k8.trans (Kept.upd (o := o9) B9)
      have row9 : RowAt (upd H8 a o9) f r := row8.kept ⟨o8, a8, B8⟩ (Kept.upd B9)
      have a9 : (upd H8 a o9) a = some o9 := upd_same
      generalize upd H8 a o9 = H9 at k9 row9 a9 ⊢
      -- the new stretch
      have lf : ∃ xs, H9 f = some (.lst xs) := by
        obtain ⟨qs, e, _⟩ := row9
        exact ⟨_, e⟩
      obtain ⟨xs, ef⟩ := lf
      refine ⟨_, rfl, .inl ⟨rfl, _, SqL.of ef⟩, _, rfl, _, rfl, _, _, rfl, rfl, _, rfl, _, rfl, a, o9, w', rfl, a9, B9, w0, by omega, fun y5 oA y50 y51 BA => ?_⟩
      refine ⟨_, _, rfl, rfl, _, _, rfl, ?_⟩
      obtain ⟨e, he, e1, e2⟩ : ∃ e : Nat, (if (b : Int) + 1 + y5 < 400 then (b : Int) + 1 + y5 else 400) = (e : Int) ∧ b < e ∧ e ≤ 400 := by
        by_cases l : (b : Int) + 1 + y5 < 400
        · rw [if_pos l]
          exact ⟨((b : Int) + 1 + y5).toNat, by rw [Int.toNat_of_nonneg (by omega)], by omega, by omega⟩
        · rw [if_neg l]
          exact ⟨400, rfl, b4, Nat.le_refl _⟩
      have kA := k9.trans (Kept.upd (o := oA) BA)
      have rowA : RowAt (upd H9 a oA) f r := row9.kept ⟨o9, a9, B9⟩ (Kept.upd BA)
      have aA : (upd H9 a oA) a = some oA := upd_same
      generalize upd H9 a oA = HA at kA rowA aA ⊢
      refine ⟨(by show 2 ≤ sizeLine; decide), fun q4 hq4 => ?_⟩
      have kB := kA.new hq4 (u := .tup [.int (b : Int), .int (if (b : Int) + 1 + y5 < 400 then (b : Int) + 1 + y5 else 400)])
      have rowB : RowAt (upd HA q4 (.tup [.int (b : Int), .int (if (b : Int) + 1 + y5 < 400 then (b : Int) + 1 + y5 else 400)])) f r := (Exd.refl _).new hq4 |>.row rowA
      have eB : (upd HA q4 (.tup [.int (b : Int), .int (if (b : Int) + 1 + y5 < 400 then (b : Int) + 1 + y5 else 400)])) q4 = some (.tup [.int (b : Int), .int (e : Int)]) := by rw [he]; exact upd_same
      generalize upd HA q4 (.tup [.int (b : Int), .int (if (b : Int) + 1 + y5 < 400 then (b : Int) + 1 + y5 else 400)]) = HB at kB rowB eB ⊢
      obtain ⟨qs, ef2, pr⟩ := rowB
      have lr := pr.len
      refine ⟨f, _, _, rfl, rfl, ef2, ?_, r ++ [(b, e)], _, _, _, rfl, fun z hz => ?_, ?_, ?_, qs ++ [q4], ?_, ?_⟩
      · rw [List.length_map]
        have := PySem.sizeLine_eq
        omega
      · rcases List.mem_append.mp hz with hz | hz
        · exact va z hz
        · rw [List.mem_singleton.mp hz]
          exact ⟨e1, e2⟩
      · rw [List.length_append, List.length_singleton]
        omega
      · obtain ⟨oz, az, Bz⟩ := kB.box
        refine ⟨⟨oz, by rw [upd_ne (fun z => by rw [z, hf] at ha; cases ha)]; exact az, Bz⟩, fun b' u nb eu => ?_⟩
        rw [upd_ne (ne_of_none eu hf)]
        exact kB.old b' u nb eu
      · rw [List.map_append]
        exact upd_same
      · refine (pr.put fun q xs e' => ?_).app (.cons ?_ .nil)
        · rw [upd_ne (ne_of e' ef2 (by intro z; cases z))]
          exact e'
        · rw [upd_ne (ne_of eB ef2 (by intro z; cases z))]
          exact eB
    · rintro σ H' ⟨r, v3, v4, v5, rfl, va, _, kp, row⟩
      exact ⟨_, rfl, k r f H' va kp hf row⟩
end
end LL
namespace LL
open PySem PySem.Spec PyProof.Rows L2
section
variable {P : Program} {w : World} {K : PySem.W.Frag} {mg : Str → Option Value} {base : Heap} {c tb : Addr}
def spMarks : Sp := fun vs H Q _ => ∃ (a : Addr) (r : List Pr), vs = [.ref a] ∧ RowAt H a r ∧ Valid r ∧
  ∀ (p : Addr) (H' : Hp), Exd H H' → H p = none → H' p = some (.lst (marks (has r))) → Q (.ref p) H'
theorem ok__law_marks (D : Defs K mg) (T : Tx K mg) : FnOk P w K mg base CX0 1 D._law_marks.f D._law_marks.fd ["_law_stretches_here"] spMarks := by
  refine D._law_marks.F.ok scLmarks (fun vs H Q E h => ?_) (fun cdv A outer s H vs Q E hr h => ?_)
  · obtain ⟨a, r, rfl, _⟩ := h
    rfl
  · obtain ⟨a, r, rfl, row, va, k⟩ := h
    obtain ⟨qs, ha, pr⟩ := id row
    refine ⟨_, (pss_cons (ps_set (i := 1) scLmarks.nd rfl (Or.inl rfl) (pe_op op_rep (pe_lst (pa_cons pe_bl pa_nil)) pe_int))
        (pss_cons (ps_for PassesOwn.never rfl (pi_list (pv 0)) (pg_tup rfl (pgs_cons (pg_name (i := 2) scLmarks.nd rfl (Or.inl rfl)) (pgs_cons (pg_name (i := 3) scLmarks.nd rfl (Or.inl rfl)) pgs_nil))) (pss_one (ps_for PassesOwn.never rfl (pi_range2 rfl T.b_range (pa_cons (pv 2) (pa_cons (pv 3) pa_nil))) (pg_name (i := 4) scLmarks.nd rfl (Or.inl rfl)) (pss_one (ps_asg pe_bl (pg_sub (pv 1) (pv 4) set_list))))))
        (pss_one (ps_ret (pv 1))))), ?_⟩
    refine ⟨(by show 1 ≤ sizeLine; decide), fun l hl => ?_⟩
    refine ⟨l, _, _, rfl, rfl, upd_same, by decide, by decide, (by show 1 * (400 : Int).toNat ≤ sizeLine; decide), fun p hp => ?_⟩
    have x1 : Exd H (upd (upd H l (.lst [.bl false])) p (.lst (marks fun _ => false))) := ((Exd.refl H).new hl).new hp
    have p0 : H p = none := ((Exd.refl H).new hl (u := .lst [.bl false])).free hp
    rw [marks_none]
    have e1 : (upd (upd H l (.lst [.bl false])) p (.lst (marks fun _ => false))) p = some (.lst (marks fun _ => false)) := upd_same
    generalize upd (upd H l (.lst [.bl false])) p (.lst (marks fun _ => false)) = H1 at x1 e1 ⊢
    refine ⟨_, rfl, a, rfl, ⟨_, SqL.of (x1 _ _ ha)⟩, for_list (K := K) (a := a) (xs := qs.map V.ref) (fun i σ H' => ∃ v2 v3 v4, σ = [some (.ref a), some (.ref p), v2, v3, v4] ∧ Exd H H' ∧ H' p = some (.lst (marks (has (r.take i)))))
      ⟨_, _, _, rfl, x1, e1⟩ (fun i σ H' _ ⟨_, _, _, _, x, _⟩ => SqL.of (x _ _ ha)) ?_ ?_⟩
    · rintro i x σ H' hx ⟨v2, v3, v4, rfl, x2, e2⟩
      rw [List.getElem?_map] at hx
      cases hq : qs[i]? with
      | none => rw [hq] at hx; cases hx
      | some q =>
        rw [hq] at hx
        obtain rfl : V.ref q = x := Option.some.inj hx
        obtain ⟨⟨b, e⟩, hz, hqt⟩ := pr.get hq
        obtain ⟨z1, z2⟩ := va _ (List.mem_of_getElem? hz)
        have z1 : b < e := z1
        have z2 : e ≤ 400 := z2
        refine ⟨q, _, rfl, SqT.of (x2 _ _ hqt), rfl, _, _, rfl, _, _, rfl, rfl, ?_⟩
        refine ⟨_, rfl, _, rfl, _, _, rfl, ⟨by omega, by omega, by omega, by omega⟩, for_range (lo := (b : Int)) (n := ((e : Int) - (b : Int)).toNat) (fun j σ H' => ∃ v4, σ = [some (.ref a), some (.ref p), some (.int (b : Int)), some (.int (e : Int)), v4] ∧
            Exd H H' ∧ H' p = some (.lst (marks fun n => has (r.take i) n || (decide (b ≤ n) && decide (n < b + j)))))
          ⟨_, rfl, x2, ?_⟩ ?_ ?_⟩
        · rw [e2]
          congr 2
          apply marks_ext
          intro n _
          by_cases l1 : b ≤ n
          · rw [decide_eq_false (show ¬ n < b + 0 by omega), Bool.and_false, Bool.or_false]
          · rw [decide_eq_false l1, Bool.false_and, Bool.or_false]
        · rintro j σ H2 hj ⟨v4, rfl, x3, e3⟩
          have lt : b + j < 400 := by omega
          refine ⟨_, rfl, _, rfl, p, _, _, b + j, rfl, rfl, e3, ?_, _, rfl, x3.put p0, ?_⟩
          · rw [marks_len]
            unfold ixN
            rw [if_pos (by omega), if_pos (by omega)]
            congr 1
          · rw [upd_same, marks_set]
            congr 2
            apply marks_ext
            intro n _
            cases has (r.take i) n with
            | true => rfl
            | false =>
              rw [Bool.false_or, Bool.false_or, ← Bool.decide_and, ← Bool.decide_and, ← Bool.decide_or, decide_eq_decide]
              omega
        · rintro σ H2 ⟨v4, rfl, x3, e3⟩
          refine ⟨_, _, _, rfl, x3, ?_⟩
          rw [e3]
          congr 2
          apply marks_ext
          intro n _
          rw [List.take_add_one, hz]
          show _ = has (r.take i ++ [(b, e)]) n
          rw [has_app, has_one]
          congr 2
          rw [decide_eq_decide]
          omega
    · rintro σ H' ⟨v2, v3, v4, rfl, x2, e2⟩
      rw [List.length_map, pr.len, List.take_length] at e2
      exact ⟨_, rfl, k p H' x2 p0 e2⟩
/-- the tidy row of what is marked -/
def spRising : Sp := fun vs H Q _ => ∃ (a : Addr) (S : Nat → Bool), vs = [.ref a] ∧ H a = some (.lst (marks S)) ∧
  ∀ (r : List Pr) (p : Addr) (H' : Hp), Tidy r → (∀ n, n < 400 → has r n = S n) → Exd H H' → H p = none → RowAt H' p r → Q (.ref p) H'
theorem ok__law_rising (D : Defs K mg) (T : Tx K mg) : FnOk P w K mg base CX0 1 D._law_rising.f D._law_rising.fd ["_law_marks_here"] spRising := by
  refine D._law_rising.F.ok scLrising (fun vs H Q E h => ?_) (fun cdv A outer s H vs Q E hr h => ?_)
  · obtain ⟨a, S, rfl, _⟩ := h
    rfl
  · obtain ⟨a, S, rfl, ha, k⟩ := h
    refine ⟨_, (pss_cons (ps_set (i := 1) scLrising.nd rfl (Or.inl rfl) (pe_lst pa_nil))
        (pss_cons (ps_for PassesOwn.never rfl (pi_range1 rfl T.b_range (pa_cons pe_int pa_nil)) (pg_name (i := 2) scLrising.nd rfl (Or.inl rfl)) (pss_one (ps_if (PW.pt (pw_and (pt_val (pe_ix ix_list (pv 0) (pv 2) (fun _ _ => rfl))) (pw_and1 (PW.pt (pw_or (pt_cmpR (op_eqD hr.units) (pv 1) (pe_lst pa_nil) (nomark _)) (pw_or1 (pt_cmpR op_ne (pe_ix ix_tup (pe_ix ix_list (pv 1) (pe_un un_neg pe_int) (fun _ _ => rfl)) pe_int (fun _ _ => rfl)) (pv 2) (nomark _)))))))) (pss_one (ps_expr (pe_bm PySem.F.plainAttrs_list PySem.F.slot_list_append PySem.F.type_list_append mt_append (pv 1) (pa_cons (pe_tup (pa_cons (pv 2) (pa_cons (pe_op op_add (pv 2) pe_int) pa_nil))) pa_nil)))) (pss_one (ps_if (pt_val (pe_ix ix_list (pv 0) (pv 2) (fun _ _ => rfl))) (pss_one (ps_asg (pe_tup (pa_cons (pe_ix ix_tup (pe_ix ix_list (pv 1) (pe_un un_neg pe_int) (fun _ _ => rfl)) pe_int (fun _ _ => rfl)) (pa_cons (pe_op op_add (pv 2) pe_int) pa_nil))) (pg_sub (pv 1) (pe_un un_neg pe_int) set_list))) pss_nil)))))
        (pss_one (ps_ret (pv 1))))), ?_⟩
    refine ⟨(by show 0 ≤ sizeLine; decide), fun p hp => ?_⟩
    have up : ∀ (i : Nat) (r : List Pr), (∀ n, has r n = (S n && decide (n < i))) → Valid r → ∀ z ∈ r, z.2 ≤ i := fun i r h v => has_below v fun n q => by
      rw [h] at q
      exact of_decide_eq_true (Bool.and_eq_true_iff.mp q).2
    refine ⟨400, rfl, by decide, by decide, for_range (lo := 0) (n := (400 : Int).toNat) (fun i σ H' => ∃ v2, σ = [some (.ref a), some (.ref p), v2] ∧ Exd H H' ∧ ∃ r, Tidy r ∧ (∀ n, has r n = (S n && decide (n < i))) ∧ RowAt H' p r)
      ⟨_, rfl, (Exd.refl H).new hp, [], trivial, (fun n => by rw [has_nil, decide_eq_false (Nat.not_lt_zero n), Bool.and_false]), [], upd_same, .nil⟩ ?_ ?_⟩
    · rintro i σ H' hi ⟨v2, rfl, x1, r, ti, hh, row⟩
      have hi : i < 400 := hi
      have va := TidyFrom.valid (b := 0) ti
      have le := up i r hh va
      have mk : atI (marks S) ((0 : Int) + (i : Int)) = some (.bl (S i)) := by rw [Int.zero_add]; exact marks_at S hi
      refine ⟨_, rfl, _, rfl, a, _, _, _, rfl, rfl, SqL.of (x1 _ _ ha), mk, S i, rfl, ?_⟩
      cases hS : S i with
      | false =>
        refine iteF ⟨_, rfl, _, rfl, a, _, _, _, rfl, rfl, SqL.of (x1 _ _ ha), mk, S i, rfl, ?_⟩
        rw [hS]
        refine iteF ⟨_, rfl, x1, r, ti, fun n => ?_, row⟩
        rw [hh]
        by_cases e : n = i
        · rw [e, hS]
          rfl
        · congr 1
          rw [decide_eq_decide]
          omega
      | true =>
        obtain ⟨qs, hp1, pr⟩ := id row
        -- one more stretch
        have fresh : ∀ (H2 : Hp) (D : Hp → Prop), Exd H H2 → H2 p = some (.lst (qs.map V.ref)) → PrsAt H2 qs r → (∀ z ∈ r, z.2 < i) →
            (∀ H3 r', Exd H H3 → Tidy r' → (∀ n, has r' n = (S n && decide (n < i + 1))) → RowAt H3 p r' → D H3) →
            ∀ t, H2 t = none → D (upd (upd H2 t (.tup [.int ((0 : Int) + (i : Int)), .int ((0 : Int) + (i : Int) + 1)])) p (.lst (qs.map V.ref ++ [.ref t]))) := by
          intro H2 D x2 e2 pr2 lt d t ht
          rw [Int.zero_add]
          have nt := ne_of_none e2 ht
          refine d _ (r ++ [(i, i + 1)]) ((x2.new ht).put hp) (ti.app lt (by omega) (by omega)) (fun n => ?_) ⟨qs ++ [t], ?_, ?_⟩
          · rw [has_app, hh, has_one]
            by_cases e : n = i
            · subst e
              rw [hS, decide_eq_true (Nat.le_refl n), decide_eq_true (Nat.lt_succ_self n)]
              simp
            · have : (decide (i ≤ n) && decide (n < i + 1)) = false := by
                rw [← Bool.decide_and, decide_eq_false]
                omega
              rw [this, Bool.or_false]
              congr 1
              rw [decide_eq_decide]
              omega
          · rw [List.map_append]
            exact upd_same
          · refine (pr2.put fun q xs e' => ?_).app (.cons ?_ .nil)
            · rw [upd_ne (ne_of e' e2 (by intro z; cases z)), upd_ne (ne_of_none e' ht)]
              exact e'
            · rw [upd_ne nt.symm]
              exact upd_same
        refine iteT ⟨_, rfl, (by show 0 ≤ sizeLine; decide), fun q hq => ?_⟩
        have x2 := x1.new hq (u := .lst [])
        have row2 : RowAt (upd H' q (.lst [])) p r := ((Exd.refl _).new hq).row row
        have dq : Dp K (upd H' q (.lst [])) (.ref q) (rowDat []) := .lst (SqL.of upd_same) .nil
        have hp2 : (upd H' q (.lst [])) p = some (.lst (qs.map V.ref)) := by rw [upd_ne (ne_of_none hp1 hq)]; exact hp1
        have pr2 : PrsAt (upd H' q (.lst [])) qs r := pr.put fun b xs e => by rw [upd_ne (ne_of_none e hq)]; exact e
        have ha2 := x2 _ _ ha
        generalize upd H' q (.lst []) = H2 at x2 row2 dq hp2 pr2 ha2 ⊢
        have small : r.length < sizeLine := by
          have := ti.len
          have := PySem.sizeLine_eq
          omega
        refine ⟨rowDat r, rowDat [], row2.dp, dq, rowDat_shaped _, rowDat_shaped _, decide (r = []), by rw [rowDat_eqv], ?_⟩
        by_cases hr0 : r = []
        · rw [decide_eq_true hr0]
          refine iteT ?_
          refine iteT ⟨_, rfl, .inl ⟨rfl, _, SqL.of hp2⟩, _, rfl, _, rfl, _, _, rfl, rfl, (by show 2 ≤ sizeLine; decide), fun t ht => ?_⟩
          refine ⟨p, _, _, rfl, rfl, (by rw [upd_ne (ne_of_none hp2 ht)]; exact hp2), by rw [List.length_map, pr.len]; exact small, ?_⟩
          refine fresh H2 _ x2 hp2 pr2 (fun z hz => by rw [hr0] at hz; cases hz) (fun H3 r' x3 t3 h3 row3 => ⟨_, rfl, x3, r', t3, h3, row3⟩) t ht
        · rw [decide_eq_false hr0]
          refine iteF ?_
          obtain ⟨r0, z, er⟩ := snoc_of hr0
          rw [er] at pr2
          obtain ⟨ps, ql, eq', pr0, eql⟩ := pr2.snoc
          have at1 : atI (qs.map V.ref) (-1) = some (.ref ql) := by
            rw [eq', List.map_append]
            exact atI_last _ _
          have zr : z ∈ r := by rw [er]; exact List.mem_append_right _ List.mem_cons_self
          refine ⟨_, rfl, _, rfl, p, _, _, _, rfl, rfl, SqL.of hp2, at1, ql, _, _, _, rfl, rfl, SqT.of eql, atT1 _ _ _, _, rfl, rfl, _, rfl, ?_⟩
          by_cases hz : z.2 = i
          · have ne : (!decide (V.int (z.2 : Int) = V.int ((0 : Int) + (i : Int)))) = false := by
              rw [decide_eq_true (by rw [hz, Int.zero_add])]
              rfl
            rw [ne]
            refine iteF ⟨_, rfl, _, rfl, a, _, _, _, rfl, rfl, SqL.of ha2, mk, S i, rfl, ?_⟩
            rw [hS]
            refine iteT ⟨_, rfl, _, rfl, p, _, _, _, rfl, rfl, SqL.of hp2, at1, ql, _, _, _, rfl, rfl, SqT.of eql, atT0 _ _, _, rfl, _, _, rfl, rfl, (by show 2 ≤ sizeLine; decide), fun t ht => ?_⟩
            have nt := ne_of_none hp2 ht
            have big : (qs.map V.ref).length = ps.length + 1 := by rw [eq', List.length_map, List.length_append]; rfl
            refine ⟨_, rfl, _, rfl, p, _, _, ps.length, rfl, rfl, (by rw [upd_ne nt]; exact hp2), ?_, _, rfl, (x2.new ht).put hp, r0 ++ [(z.1, i + 1)], ?_, fun n => ?_, ps ++ [t], ?_, ?_⟩
            · rw [big]
              unfold ixN
              rw [if_neg (by decide), if_pos (by omega)]
              congr 1
              omega
            · have ti' := ti
              rw [er, show z = (z.1, i) from Prod.ext rfl hz] at ti'
              exact TidyFrom.grow (b := 0) ti' (by omega)
            · have h1 := hh n
              rw [er, has_app, show z = (z.1, i) from Prod.ext rfl hz, has_one] at h1
              rw [has_app, has_one]
              have zl := (va z zr).1
              by_cases e : n = i
              · subst e
                rw [hS, decide_eq_true (show z.1 ≤ n by omega), decide_eq_true (Nat.lt_succ_self n), Bool.and_self, Bool.or_true]
              · rw [show decide (n < i + 1) = decide (n < i) from by rw [decide_eq_decide]; omega]
                exact h1
            · rw [eq', List.map_append, List.map_append, upd_same]
              congr 2
              rw [List.set_append_right _ _ (by rw [List.length_map]; exact Nat.le_refl _), List.length_map, Nat.sub_self]
              rfl
            · refine (pr0.put fun q xs e' => ?_).app (.cons ?_ .nil)
              · rw [upd_ne (ne_of e' hp2 (by intro z; cases z)), upd_ne (ne_of_none e' ht)]
                exact e'
              · rw [upd_ne nt.symm, upd_same, Int.zero_add]
                rfl
          · have ne : (!decide (V.int (z.2 : Int) = V.int ((0 : Int) + (i : Int)))) = true := by
              rw [decide_eq_false (fun y => hz (by injection y with y; omega))]
              rfl
            rw [ne]
            refine iteT ⟨_, rfl, .inl ⟨rfl, _, SqL.of hp2⟩, _, rfl, _, rfl, _, _, rfl, rfl, (by show 2 ≤ sizeLine; decide), fun t ht => ?_⟩
            refine ⟨p, _, _, rfl, rfl, (by rw [upd_ne (ne_of_none hp2 ht)]; exact hp2), by rw [List.length_map, pr.len]; exact small, ?_⟩
            refine fresh H2 _ x2 hp2 (by rw [er]; exact pr2) (fun y hy => ?_) (fun H3 r' x3 t3 h3 row3 => ⟨_, rfl, x3, r', t3, h3, row3⟩) t ht
            have := le y hy
            rcases Nat.lt_or_eq_of_le this with l | l
            · exact l
            · exfalso
              have ti' := ti
              rw [er] at ti'
              have b1 := TidyFrom.last (b := 0) ti' (show y ∈ r0 ++ [z] by rw [← er]; exact hy)
              have b2 := le z zr
              omega
    · rintro σ H' ⟨v2, rfl, x1, r, ti, hh, row⟩
      refine ⟨_, rfl, k r p H' ti (fun n hn => ?_) x1 hp row⟩
      rw [hh, decide_eq_true (show n < (400 : Int).toNat from hn), Bool.and_true]
end
end LL
namespace LL
open PySem PySem.Spec PyProof.Rows L2
section
variable {P : Program} {w : World} {K : PySem.W.Frag} {mg : Str → Option Value} {base : Heap} {c tb : Addr}
def spRight (K : PySem.W.Frag) (tb : Addr) : Sp := fun vs H Q _ => ∃ (a b : Addr) (r q : List Pr), vs = [.ref a, .ref b] ∧ RowAt H a r ∧ RowAt H b q ∧ Tidy r ∧ Tidy q ∧ GxR.TabG H tb ∧ ∀ H', Nw tb H H' → Q (.bl true) H'
theorem ok__law_right (D : Defs K mg) (T : Tx K mg) (hc : D.is_runs.fd.code = .ref c) (TB : GxR.TabB base mg c tb) : FnG P w K mg base 11 D._law_right.f D._law_right.fd ["_law_one", "_law_other"] (spRight K tb) := by
  have G_law_marks := ok__law_marks (P := P) (w := w) (base := base) D T
  have G_law_rising := ok__law_rising (P := P) (w := w) (base := base) D T
  have Gjoined_runs := ok_joined_runs (P := P) (w := w) (base := base) D T hc TB
  have Gcommon_runs := ok_common_runs (P := P) (w := w) (base := base) D T hc TB
  have Gless_runs := ok_less_runs (P := P) (w := w) (base := base) D T hc TB
  refine fnG_of D._law_right.F scLright (fun vs H Q E h => ?_) (fun cdv A outer s H vs Q E guard hr h => ?_)
  · obtain ⟨a, b, r, q, rfl, _⟩ := h
    rfl
  · obtain ⟨a, b, r, q, rfl, ra, rb, tr, tq, tab, k⟩ := h
    have vr := TidyFrom.valid (b := 0) tr
    have vq := TidyFrom.valid (b := 0) tq
    refine ⟨_, (pss_cons (ps_set (i := 2) scLright.nd rfl (Or.inr rfl) (pcall D._law_marks G_law_marks hr (by decide) (by rfl) (pa_cons (pv 0) pa_nil)))
        (pss_cons (ps_set (i := 3) scLright.nd rfl (Or.inr rfl) (pcall D._law_marks G_law_marks hr (by decide) (by rfl) (pa_cons (pv 1) pa_nil)))
        (pss_cons (ps_set (i := 4) scLright.nd rfl (Or.inl rfl) (pe_lst (pa_cons (pcall D._law_rising G_law_rising hr (by decide) (by rfl) (pa_cons (pe_lc (own := [("_law_k", 5)]) (g := gName 5) (tt := tYes) rfl scLright.nd (pi_range1 rfl T.b_range (pa_cons pe_int pa_nil)) (blkOk_by (N := scLright_N) (sc := defScope scLright_st) (by decide +kernel)) (fun _ _ _ _ _ => pg_name (i := 5) scLright.nd rfl (Or.inl rfl)) (fun _ _ _ _ _ => pts_nil) (fun _ _ _ _ _ => (pe_or (pe_ix (ix_listK (K := K) rfl) (pv 2) (pv 5) (fun _ _ => rfl)) (pe_one (pe_ix (ix_listK (K := K) rfl) (pv 3) (pv 5) (fun _ _ => rfl)))))) pa_nil)) pa_nil)))
        (pss_cons (ps_expr (pe_bm PySem.F.plainAttrs_list PySem.F.slot_list_append PySem.F.type_list_append mt_append (pv 4) (pa_cons (pcall D._law_rising G_law_rising hr (by decide) (by rfl) (pa_cons (pe_lc (own := [("_law_k", 5)]) (g := gName 5) (tt := tYes) rfl scLright.nd (pi_range1 rfl T.b_range (pa_cons pe_int pa_nil)) (blkOk_by (N := scLright_N) (sc := defScope scLright_st) (by decide +kernel)) (fun _ _ _ _ _ => pg_name (i := 5) scLright.nd rfl (Or.inl rfl)) (fun _ _ _ _ _ => pts_nil) (fun _ _ _ _ _ => (pe_and (pe_ix (ix_listK (K := K) rfl) (pv 2) (pv 5) (fun _ _ => rfl)) (pe_one (pe_ix (ix_listK (K := K) rfl) (pv 3) (pv 5) (fun _ _ => rfl)))))) pa_nil)) pa_nil)))
        (pss_cons (ps_expr (pe_bm PySem.F.plainAttrs_list PySem.F.slot_list_append PySem.F.type_list_append mt_append (pv 4) (pa_cons (pcall D._law_rising G_law_rising hr (by decide) (by rfl) (pa_cons (pe_lc (own := [("_law_k", 5)]) (g := gName 5) (tt := tYes) rfl scLright.nd (pi_range1 rfl T.b_range (pa_cons pe_int pa_nil)) (blkOk_by (N := scLright_N) (sc := defScope scLright_st) (by decide +kernel)) (fun _ _ _ _ _ => pg_name (i := 5) scLright.nd rfl (Or.inl rfl)) (fun _ _ _ _ _ => pts_nil) (fun _ _ _ _ _ => (pe_and (pe_ix (ix_listK (K := K) rfl) (pv 2) (pv 5) (fun _ _ => rfl)) (pe_one (pe_not (pe_ix (ix_listK (K := K) rfl) (pv 3) (pv 5) (fun _ _ => rfl))))))) pa_nil)) pa_nil)))
        (pss_cons (ps_expr (pe_bm PySem.F.plainAttrs_list PySem.F.slot_list_append PySem.F.type_list_append mt_append (pv 4) (pa_cons (pcall D._law_rising G_law_rising hr (by decide) (by rfl) (pa_cons (pe_lc (own := [("_law_k", 5)]) (g := gName 5) (tt := tYes) rfl scLright.nd (pi_range1 rfl T.b_range (pa_cons pe_int pa_nil)) (blkOk_by (N := scLright_N) (sc := defScope scLright_st) (by decide +kernel)) (fun _ _ _ _ _ => pg_name (i := 5) scLright.nd rfl (Or.inl rfl)) (fun _ _ _ _ _ => pts_nil) (fun _ _ _ _ _ => (pe_and (pe_ix (ix_listK (K := K) rfl) (pv 3) (pv 5) (fun _ _ => rfl)) (pe_one (pe_not (pe_ix (ix_listK (K := K) rfl) (pv 2) (pv 5) (fun _ _ => rfl))))))) pa_nil)) pa_nil)))
        (pss_cons (ps_set (i := 6) scLright.nd rfl (Or.inl rfl) (pe_callB (call_reprM guard hr) (by rfl) T.b_repr (by decide +kernel) (pa_cons (pe_lst (pa_cons (pv 0) (pa_cons (pv 1) pa_nil))) pa_nil)))
        (pss_cons (ps_for PassesOwn.never rfl (pi_range1 rfl T.b_range (pa_cons pe_int pa_nil)) (pg_name (i := 7) scLright.nd rfl (Or.inl rfl)) (pss_cons (ps_set (i := 8) scLright.nd rfl (Or.inl rfl) (pe_lst (pa_cons (pcall D.joined_runs Gjoined_runs hr (by decide) (by rfl) (pa_cons (pv 0) (pa_cons (pv 1) pa_nil))) (pa_cons (pcall D.common_runs Gcommon_runs hr (by decide) (by rfl) (pa_cons (pv 0) (pa_cons (pv 1) pa_nil))) (pa_cons (pcall D.less_runs Gless_runs hr (by decide) (by rfl) (pa_cons (pv 0) (pa_cons (pv 1) pa_nil))) (pa_cons (pcall D.less_runs Gless_runs hr (by decide) (by rfl) (pa_cons (pv 1) (pa_cons (pv 0) pa_nil))) pa_nil))))))
        (pss_cons (ps_if (PW.pt (pw_or (pt_cmpR op_ne (pe_callB (call_reprM guard hr) (by rfl) T.b_repr (by decide +kernel) (pa_cons (pv 8) pa_nil)) (pe_callB (call_reprM guard hr) (by rfl) T.b_repr (by decide +kernel) (pa_cons (pv 4) pa_nil)) (nomark _)) (pw_or1 (pt_cmpR op_ne (pe_callB (call_reprM guard hr) (by rfl) T.b_repr (by decide +kernel) (pa_cons (pe_lst (pa_cons (pv 0) (pa_cons (pv 1) pa_nil))) pa_nil)) (pv 6) (nomark _))))) (pss_one (ps_ret pe_bl)) pss_nil)
        (pss_one (ps_for PassesOwn.never rfl (pi_list (pv 8)) (pg_name (i := 9) scLright.nd rfl (Or.inl rfl)) (pss_one (ps_expr (pe_bm PySem.F.plainAttrs_list PySem.F.slot_list_append PySem.F.type_list_append mt_append (pv 9) (pa_cons (pe_tup (pa_cons pe_int (pa_cons pe_int pa_nil))) pa_nil)))))))))
        (pss_one (ps_ret (pe_cmpR op_eq (pe_callB (call_reprM guard hr) (by rfl) T.b_repr (by decide +kernel) (pa_cons (pe_lst (pa_cons (pcall D.joined_runs Gjoined_runs hr (by decide) (by rfl) (pa_cons (pv 1) (pa_cons (pv 0) pa_nil))) (pa_cons (pcall D.common_runs Gcommon_runs hr (by decide) (by rfl) (pa_cons (pv 1) (pa_cons (pv 0) pa_nil))) pa_nil))) pa_nil)) (pe_callB (call_reprM guard hr) (by rfl) T.b_repr (by decide +kernel) (pa_cons (pe_slice sl_list (pv 4) po_none (po_some pe_int)) pa_nil)) (nomark _)))))))))))), ?_⟩
    have out : ∀ (t : List Pr) (f : Nat → Bool), Tidy t → (∀ n, n < 400 → has t n = f n) → (∀ n, ¬ n < 400 → f n = false) → ∀ n, has t n = f n := fun t f tt h1 h2 n => by
      by_cases l : n < 400
      · exact h1 n l
      · rw [h2 n l]
        cases q : has t n with
        | false => rfl
        | true => exact absurd (has_lt (TidyFrom.valid (b := 0) tt) q) l
    have no : ∀ (t : List Pr), Tidy t → ∀ n, ¬ n < 400 → has t n = false := fun t tt n l => by
      cases q : has t n with
      | false => rfl
      | true => exact absurd (has_lt (TidyFrom.valid (b := 0) tt) q) l
    refine ⟨_, rfl, a, r, rfl, ra, vr, fun x H1 x1 fx ex => ?_⟩
    refine ⟨_, rfl, b, q, rfl, x1.row rb, vq, fun y H2 x2 fy ey => ?_⟩
    have x12 := x1.trans x2
    have ex2 := x2 _ _ ex
    have mkX : ∀ {H' : Hp} {i : Nat}, i < 400 → H' x = some (.lst (marks (has r))) → atI (marks (has r)) ((0 : Int) + (i : Int)) = some (.bl (has r i)) := fun hi _ => by rw [Int.zero_add]; exact marks_at _ hi
    have mkR : ∀ {i : Nat}, i < 400 → atI (marks (has r)) ((0 : Int) + (i : Int)) = some (.bl (has r i)) := fun hi => by rw [Int.zero_add]; exact marks_at _ hi
    have mkQ : ∀ {i : Nat}, i < 400 → atI (marks (has q)) ((0 : Int) + (i : Int)) = some (.bl (has q i)) := fun hi => by rw [Int.zero_add]; exact marks_at _ hi
    have ex1 := ex2
    have ey1 := ey
    refine ⟨400, rfl, by decide, by decide, fun d1 hd1 => lc_marks (fun n => has r n || has q n) (fun v => rfl) (fun i H' Q' hi e k' => ?_) ?_⟩
    · have e1 : H' x = some (.lst (marks (has r))) := by rw [e, upd_ne (ne_of_none ex1 hd1)]; exact ex1
      have e2 : H' y = some (.lst (marks (has q))) := by rw [e, upd_ne (ne_of_none ey1 hd1)]; exact ey1
      refine ⟨_, rfl, _, rfl, x, _, _, _, rfl, rfl, SqL.of e1, mkR hi, _, rfl, ?_⟩
      cases e3 : has r i with
      | true =>
        rw [e3] at k'
        exact iteT k'
      | false =>
        rw [e3, Bool.false_or] at k'
        exact iteF ⟨_, rfl, _, rfl, y, _, _, _, rfl, rfl, SqL.of e2, mkQ hi, k'⟩
    refine ⟨d1, _, rfl, upd_same, fun t1 p1 H3 T1 h1 x3 n1 row1 => ?_⟩
    have x03 : Exd H H3 := (x12.new hd1).trans x3
    have g1 := out t1 (fun n => has r n || has q n) T1 h1 (fun n l => by rw [no r tr n l, no q tq n l]; rfl)
    refine ⟨(by show 1 ≤ sizeLine; decide), fun d hd => ?_⟩
    have d0 : H d = none := x03.free hd
    have x0_1 := x03.new hd (u := .lst [.ref p1])
    have ed1 : (upd H3 d (.lst [.ref p1])) d = some (.lst ([p1].map V.ref)) := upd_same
    have rows1 : RowsAt (upd H3 d (.lst [.ref p1])) [p1] [t1] := .cons (((Exd.refl H3).new hd).row row1) .nil
    have nd1 : ∀ z ∈ [p1], z ≠ d := fun z hz => by
      obtain ⟨qs, e, _⟩ := row1
      rw [List.mem_singleton.mp hz]
      exact ne_of_none e hd
    have ex2 : (upd H3 d (.lst [.ref p1])) x = some (.lst (marks (has r))) := ((Exd.refl _).new hd1 |>.trans x3 |>.new hd) _ _ ex2
    have ey2 : (upd H3 d (.lst [.ref p1])) y = some (.lst (marks (has q))) := ((Exd.refl _).new hd1 |>.trans x3 |>.new hd) _ _ ey
    generalize upd H3 d (.lst [.ref p1]) = G1 at x0_1 ed1 rows1 ex2 ey2 ⊢
    refine ⟨_, rfl, .inl ⟨rfl, _, SqL.of ed1⟩, 400, rfl, by decide, by decide, fun d2 hd2 => lc_marks (fun n => has r n && has q n) (fun v => rfl) (fun i H' Q' hi e k' => ?_) ?_⟩
    · have e1 : H' x = some (.lst (marks (has r))) := by rw [e, upd_ne (ne_of_none ex2 hd2)]; exact ex2
      have e2 : H' y = some (.lst (marks (has q))) := by rw [e, upd_ne (ne_of_none ey2 hd2)]; exact ey2
      refine ⟨_, rfl, _, rfl, x, _, _, _, rfl, rfl, SqL.of e1, mkR hi, _, rfl, ?_⟩
      cases e3 : has r i with
      | false =>
        rw [e3] at k'
        exact iteF k'
      | true =>
        rw [e3, Bool.true_and] at k'
        exact iteT ⟨_, rfl, _, rfl, y, _, _, _, rfl, rfl, SqL.of e2, mkQ hi, k'⟩
    refine ⟨d2, _, rfl, upd_same, fun t2 p2 F2 T2 h2 x2' n2 row2 => ?_⟩
    have xg2 : Exd G1 F2 := ((Exd.refl _).new hd2).trans x2'
    have g2 := out t2 (fun n => has r n && has q n) T2 h2 (fun n l => by rw [no r tr n l, no q tq n l]; rfl)
    have edF2 := xg2 _ _ ed1
    refine ⟨d, _, _, rfl, rfl, edF2, (by show 1 < sizeLine; decide), ?_⟩
    have x0_2 := (x0_1.trans xg2).put d0 (u := .lst ([p1].map V.ref ++ [.ref p2]))
    have nd2 : ∀ z ∈ [p1, p2], z ≠ d := fun z hz => by
      have hz : z ∈ [p1] ++ [p2] := hz
      rcases List.mem_append.mp hz with hz | hz
      · exact nd1 z hz
      · rw [List.mem_singleton.mp hz]
        exact (ne_of_none ((Exd.refl _).new hd2 _ _ ed1) n2).symm
    have rows2 : RowsAt (upd F2 d (.lst ([p1].map V.ref ++ [.ref p2]))) [p1, p2] [t1, t2] := ((xg2.rows rows1).app (.cons row2 .nil)).upd nd2 edF2
    have ex3 : (upd F2 d (.lst ([p1].map V.ref ++ [.ref p2]))) x = some (.lst (marks (has r))) := by
      rw [upd_ne (marks_ne ed1 ex2 (by show 1 < 400; decide)).symm]
      exact xg2 _ _ ex2
    have ey3 : (upd F2 d (.lst ([p1].map V.ref ++ [.ref p2]))) y = some (.lst (marks (has q))) := by
      rw [upd_ne (marks_ne ed1 ey2 (by show 1 < 400; decide)).symm]
      exact xg2 _ _ ey2
    have ed2 : (upd F2 d (.lst ([p1].map V.ref ++ [.ref p2]))) d = some (.lst ([p1, p2].map V.ref)) := upd_same
    generalize upd F2 d (.lst ([p1].map V.ref ++ [.ref p2])) = G2 at x0_2 rows2 ex3 ey3 ed2 ⊢
    refine ⟨_, rfl, .inl ⟨rfl, _, SqL.of ed2⟩, 400, rfl, by decide, by decide, fun d3 hd3 => lc_marks (fun n => has r n && !has q n) (fun v => rfl) (fun i H' Q' hi e k' => ?_) ?_⟩
    · have e1 : H' x = some (.lst (marks (has r))) := by rw [e, upd_ne (ne_of_none ex3 hd3)]; exact ex3
      have e2 : H' y = some (.lst (marks (has q))) := by rw [e, upd_ne (ne_of_none ey3 hd3)]; exact ey3
      refine ⟨_, rfl, _, rfl, x, _, _, _, rfl, rfl, SqL.of e1, mkR hi, _, rfl, ?_⟩
      cases e3 : has r i with
      | false =>
        rw [e3] at k'
        exact iteF k'
      | true =>
        rw [e3, Bool.true_and] at k'
        exact iteT ⟨_, rfl, _, rfl, y, _, _, _, rfl, rfl, SqL.of e2, mkQ hi, _, rfl, k'⟩
    refine ⟨d3, _, rfl, upd_same, fun t3 p3 F3 T3 h3 x3' n3 row3 => ?_⟩
    have xg3 : Exd G2 F3 := ((Exd.refl _).new hd3).trans x3'
    have g3 := out t3 (fun n => has r n && !has q n) T3 h3 (fun n l => by rw [no r tr n l, no q tq n l]; rfl)
    have edF3 := xg3 _ _ ed2
    refine ⟨d, _, _, rfl, rfl, edF3, (by show 2 < sizeLine; decide), ?_⟩
    have x0_3 := (x0_2.trans xg3).put d0 (u := .lst ([p1, p2].map V.ref ++ [.ref p3]))
    have nd3 : ∀ z ∈ [p1, p2, p3], z ≠ d := fun z hz => by
      have hz : z ∈ [p1, p2] ++ [p3] := hz
      rcases List.mem_append.mp hz with hz | hz
      · exact nd2 z hz
      · rw [List.mem_singleton.mp hz]
        exact (ne_of_none ((Exd.refl _).new hd3 _ _ ed2) n3).symm
    have rows3 : RowsAt (upd F3 d (.lst ([p1, p2].map V.ref ++ [.ref p3]))) [p1, p2, p3] [t1, t2, t3] := ((xg3.rows rows2).app (.cons row3 .nil)).upd nd3 edF3
    have ex4 : (upd F3 d (.lst ([p1, p2].map V.ref ++ [.ref p3]))) x = some (.lst (marks (has r))) := by
      rw [upd_ne (marks_ne ed2 ex3 (by show 2 < 400; decide)).symm]
      exact xg3 _ _ ex3
    have ey4 : (upd F3 d (.lst ([p1, p2].map V.ref ++ [.ref p3]))) y = some (.lst (marks (has q))) := by
      rw [upd_ne (marks_ne ed2 ey3 (by show 2 < 400; decide)).symm]
      exact xg3 _ _ ey3
    have ed3 : (upd F3 d (.lst ([p1, p2].map V.ref ++ [.ref p3]))) d = some (.lst ([p1, p2, p3].map V.ref)) := upd_same
    generalize upd F3 d (.lst ([p1, p2].map V.ref ++ [.ref p3])) = G3 at x0_3 rows3 ex4 ey4 ed3 ⊢
    refine ⟨_, rfl, .inl ⟨rfl, _, SqL.of ed3⟩, 400, rfl, by decide, by decide, fun d4 hd4 => lc_marks (fun n => has q n && !has r n) (fun v => rfl) (fun i H' Q' hi e k' => ?_) ?_⟩
    · have e1 : H' x = some (.lst (marks (has r))) := by rw [e, upd_ne (ne_of_none ex4 hd4)]; exact ex4
      have e2 : H' y = some (.lst (marks (has q))) := by rw [e, upd_ne (ne_of_none ey4 hd4)]; exact ey4
      refine ⟨_, rfl, _, rfl, y, _, _, _, rfl, rfl, SqL.of e2, mkQ hi, _, rfl, ?_⟩
      cases e3 : has q i with
      | false =>
        rw [e3] at k'
        exact iteF k'
      | true =>
        rw [e3, Bool.true_and] at k'
        exact iteT ⟨_, rfl, _, rfl, x, _, _, _, rfl, rfl, SqL.of e1, mkR hi, _, rfl, k'⟩
    refine ⟨d4, _, rfl, upd_same, fun t4 p4 F4 T4 h4 x4' n4 row4 => ?_⟩
    have xg4 : Exd G3 F4 := ((Exd.refl _).new hd4).trans x4'
    have g4 := out t4 (fun n => has q n && !has r n) T4 h4 (fun n l => by rw [no r tr n l, no q tq n l]; rfl)
    have edF4 := xg4 _ _ ed3
    refine ⟨d, _, _, rfl, rfl, edF4, (by show 3 < sizeLine; decide), ?_⟩
    have x0_4 := (x0_3.trans xg4).put d0 (u := .lst ([p1, p2, p3].map V.ref ++ [.ref p4]))
    have nd4 : ∀ z ∈ [p1, p2, p3, p4], z ≠ d := fun z hz => by
      have hz : z ∈ [p1, p2, p3] ++ [p4] := hz
      rcases List.mem_append.mp hz with hz | hz
      · exact nd3 z hz
      · rw [List.mem_singleton.mp hz]
        exact (ne_of_none ((Exd.refl _).new hd4 _ _ ed3) n4).symm
    have rows4 : RowsAt (upd F4 d (.lst ([p1, p2, p3].map V.ref ++ [.ref p4]))) [p1, p2, p3, p4] [t1, t2, t3, t4] := ((xg4.rows rows3).app (.cons row4 .nil)).upd nd4 edF4
    have ex5 : (upd F4 d (.lst ([p1, p2, p3].map V.ref ++ [.ref p4]))) x = some (.lst (marks (has r))) := by
      rw [upd_ne (marks_ne ed3 ex4 (by show 3 < 400; decide)).symm]
      exact xg4 _ _ ex4
    have ey5 : (upd F4 d (.lst ([p1, p2, p3].map V.ref ++ [.ref p4]))) y = some (.lst (marks (has q))) := by
      rw [upd_ne (marks_ne ed3 ey4 (by show 3 < 400; decide)).symm]
      exact xg4 _ _ ey4
    have ed4 : (upd F4 d (.lst ([p1, p2, p3].map V.ref ++ [.ref p4]))) d = some (.lst ([p1, p2, p3, p4].map V.ref)) := upd_same
    generalize upd F4 d (.lst ([p1, p2, p3].map V.ref ++ [.ref p4])) = G4 at x0_4 rows4 ex5 ey5 ed4 ⊢
    have okR : ∀ (t : List Pr), Tidy t → Valid t ∧ t.length ≤ 400 := fun t tt => ⟨TidyFrom.valid (b := 0) tt, by have := tt.len; omega⟩
    have ok2 : ∀ z ∈ [r, q], Valid z ∧ z.length ≤ 400 := fun z hz => by
      simp only [List.mem_cons, List.not_mem_nil, or_false] at hz
      rcases hz with rfl | rfl
      · exact okR _ tr
      · exact okR _ tq
    have ok4 : ∀ z ∈ [t1, t2, t3, t4], Valid z ∧ z.length ≤ 400 := fun z hz => by
      simp only [List.mem_cons, List.not_mem_nil, or_false] at hz
      rcases hz with rfl | rfl | rfl | rfl
      · exact okR _ T1
      · exact okR _ T2
      · exact okR _ T3
      · exact okR _ T4
    -- the text of what is handed in
    refine ⟨_, rfl, _, rfl, (by show 2 ≤ sizeLine; decide), fun u hu => ?_⟩
    have x05 := x0_4.new hu (u := .lst [.ref a, .ref b])
    have rowsS : RowsAt (upd G4 u (.lst [.ref a, .ref b])) [p1, p2, p3, p4] [t1, t2, t3, t4] := ((Exd.refl _).new hu).rows rows4
    have edS : (upd G4 u (.lst [.ref a, .ref b])) d = some (.lst ([p1, p2, p3, p4].map V.ref)) := ((Exd.refl _).new hu) _ _ ed4
    refine ⟨.ref u, rowsDat [r, q], rfl, rows_dp (as := [a, b]) upd_same (.cons (x05.row ra) (.cons (x05.row rb) .nil)), rfl, sm_rows ok2 (by show 2 ≤ 100; decide), ?_⟩
    generalize upd G4 u (.lst [.ref a, .ref b]) = G5 at x05 rowsS edS ⊢
    have tabS := (x05.nw tab).tab
    have raS := x05.row ra
    have rbS := x05.row rb
    refine ⟨2, rfl, by decide, by decide, for_range (lo := 0) (n := (2 : Int).toNat) (fun i σ H' => ∃ v5 v7 v8 v9, σ = [some (.ref a), some (.ref b), some (.ref x), some (.ref y), some (.ref d), v5, some (.str (rowsDat [r, q]).shown), v7, v8, v9] ∧ Nw tb G5 H')
      ⟨_, _, _, _, rfl, Nw.refl tabS⟩ ?_ ?_⟩
    · rintro i σ H' hi ⟨v5, v7, v8, v9, rfl, nw⟩
      refine ⟨_, rfl, _, rfl, a, b, r, q, rfl, raS.nw nw, rbS.nw nw, tr, tq, nw.tab, fun s1 m1 K1 S1 e1 w1 f1 rz1 => ?_⟩
      have nw1 := nw.trans w1
      refine ⟨_, rfl, _, rfl, a, b, r, q, rfl, raS.nw nw1, rbS.nw nw1, tr, tq, nw1.tab, fun s2 m2 K2 S2 e2 w2 f2 rz2 => ?_⟩
      have nw2 := nw1.trans w2
      refine ⟨_, rfl, _, rfl, a, b, r, q, rfl, raS.nw nw2, rbS.nw nw2, tr, tq, nw2.tab, fun s3 m3 K3 S3 e3 w3 f3 rz3 => ?_⟩
      have nw3 := nw2.trans w3
      refine ⟨_, rfl, _, rfl, b, a, q, r, rfl, rbS.nw nw3, raS.nw nw3, tq, tr, nw3.tab, fun s4 m4 K4 S4 e4 w4 f4 rz4 => ?_⟩
      have nw4 := nw3.trans w4
      obtain rfl : s1 = t1 := tidy_eq S1 T1 fun n => by rw [e1, g1]
      obtain rfl : s2 = t2 := tidy_eq S2 T2 fun n => by rw [e2, g2]
      obtain rfl : s3 = t3 := tidy_eq S3 T3 fun n => by rw [e3, g3]
      obtain rfl : s4 = t4 := tidy_eq S4 T4 fun n => by rw [e4, g4]
      have m1S := nw.free f1
      have m2S := nw1.free f2
      have m3S := nw2.free f3
      have m4S := nw3.free f4
      refine ⟨(by show 4 ≤ sizeLine; decide), fun t ht => ?_⟩
      have nw5 := nw4.new ht (u := .lst [.ref m1, .ref m2, .ref m3, .ref m4])
      have rowsT : RowsAt (upd K4 t (.lst [.ref m1, .ref m2, .ref m3, .ref m4])) [m1, m2, m3, m4] [s1, s2, s3, s4] :=
        ((Exd.refl _).new ht).rows (.cons (((rz1.nw w2).nw w3).nw w4) (.cons ((rz2.nw w3).nw w4) (.cons (rz3.nw w4) (.cons rz4 .nil))))
      have et : (upd K4 t (.lst [.ref m1, .ref m2, .ref m3, .ref m4])) t = some (.lst ([m1, m2, m3, m4].map V.ref)) := upd_same
      have tS := nw4.free ht
      have mt : ∀ z ∈ [m1, m2, m3, m4], G5 z = none ∧ z ≠ t := fun z hz => by
        simp only [List.mem_cons, List.not_mem_nil, or_false] at hz
        have st : ∀ {z : Addr} {r : List Pr}, RowAt K4 z r → z ≠ t := fun {z r} h => by
          obtain ⟨qs, e, _⟩ := h
          exact ne_of_none e ht
        rcases hz with rfl | rfl | rfl | rfl
        · exact ⟨m1S, st (((rz1.nw w2).nw w3).nw w4)⟩
        · exact ⟨m2S, st ((rz2.nw w3).nw w4)⟩
        · exact ⟨m3S, st (rz3.nw w4)⟩
        · exact ⟨m4S, st rz4⟩
      generalize upd K4 t (.lst [.ref m1, .ref m2, .ref m3, .ref m4]) = K5 at nw5 rowsT et ⊢
      have rowsD : RowsAt K5 [p1, p2, p3, p4] [s1, s2, s3, s4] := rowsS.keep nw5.keep
      refine ⟨_, rfl, .ref t, rowsDat [s1, s2, s3, s4], rfl, rows_dp et rowsT, rfl, sm_rows ok4 (by show 4 ≤ 100; decide), ?_⟩
      refine ⟨_, rfl, .ref d, rowsDat [s1, s2, s3, s4], rfl, rows_dp (nw5.lst edS) rowsD, rfl, sm_rows ok4 (by show 4 ≤ 100; decide), ?_⟩
      refine ⟨rfl, _, rfl, ?_⟩
      rw [decide_eq_true rfl]
      refine iteF ?_
      refine ⟨_, rfl, _, rfl, (by show 2 ≤ sizeLine; decide), fun u2 hu2 => ?_⟩
      have nw6 := nw5.new hu2 (u := .lst [.ref a, .ref b])
      have et6 : (upd K5 u2 (.lst [.ref a, .ref b])) t = some (.lst ([m1, m2, m3, m4].map V.ref)) := ((Exd.refl _).new hu2) _ _ et
      have rowsT6 : RowsAt (upd K5 u2 (.lst [.ref a, .ref b])) [m1, m2, m3, m4] [s1, s2, s3, s4] := ((Exd.refl _).new hu2).rows rowsT
      refine ⟨.ref u2, rowsDat [r, q], rfl, rows_dp (as := [a, b]) upd_same (.cons (raS.nw nw6) (.cons (rbS.nw nw6) .nil)), rfl, sm_rows ok2 (by show 2 ≤ 100; decide), ?_⟩
      generalize upd K5 u2 (.lst [.ref a, .ref b]) = K6 at nw6 et6 rowsT6 ⊢
      refine ⟨_, rfl, rfl, _, rfl, ?_⟩
      rw [decide_eq_true rfl]
      refine iteF ?_
      -- what was told is changed
      have len0 : ∀ z ∈ [m1, m2, m3, m4], ∃ xs, K6 z = some (.lst xs) ∧ xs.length ≤ 201 + 0 := by
        have one : ∀ {z : Addr} {r : List Pr}, RowAt K6 z r → Tidy r → ∃ xs, K6 z = some (.lst xs) ∧ xs.length ≤ 201 + 0 := fun {z r} h tt => by
          obtain ⟨qs, e, p⟩ := h
          exact ⟨_, e, by rw [List.length_map, p.len]; exact tt.len⟩
        cases rowsT6 with
        | cons h1 k1 =>
          cases k1 with
          | cons h2 k2 =>
            cases k2 with
            | cons h3 k3 =>
              cases k3 with
              | cons h4 _ =>
                intro z hz
                simp only [List.mem_cons, List.not_mem_nil, or_false] at hz
                rcases hz with rfl | rfl | rfl | rfl
                · exact one h1 T1
                · exact one h2 T2
                · exact one h3 T3
                · exact one h4 T4
      refine ⟨_, rfl, t, rfl, ⟨_, SqL.of et6⟩, for_list (K := K) (a := t) (xs := [m1, m2, m3, m4].map V.ref) (fun j σ H' => ∃ v9, σ = [some (.ref a), some (.ref b), some (.ref x), some (.ref y), some (.ref d), v5, some (.str (rowsDat [r, q]).shown), some (.int ((0 : Int) + (i : Int))), some (.ref t), v9] ∧
          Nw tb G5 H' ∧ H' t = some (.lst ([m1, m2, m3, m4].map V.ref)) ∧ ∀ z ∈ [m1, m2, m3, m4], ∃ xs, H' z = some (.lst xs) ∧ xs.length ≤ 201 + j)
        ⟨_, rfl, nw6, et6, len0⟩ (fun j σ H' _ ⟨_, _, _, e, _⟩ => SqL.of e) ?_ ?_⟩
      · rintro j z σ H7 hz ⟨v9', rfl, nw7, et7, ln⟩
        have hj : j < 4 := (List.getElem?_eq_some_iff.mp hz).1
        obtain ⟨m, hm, rfl⟩ := List.mem_map.mp (List.mem_of_getElem? hz)
        obtain ⟨mS, mt'⟩ := mt m hm
        obtain ⟨xs, exs, lxs⟩ := ln m hm
        refine ⟨_, rfl, .inl ⟨rfl, _, SqL.of exs⟩, (by show 2 ≤ sizeLine; decide), fun w hw => ?_⟩
        have nz := ne_of_none exs hw
        refine ⟨m, _, _, rfl, rfl, (by rw [upd_ne nz]; exact exs), ?_, _, rfl, ?_, ?_, fun z hz => ?_⟩
        · have := PySem.sizeLine_eq
          omega
        · exact (nw7.new hw).put mS (o := .lst xs) (by rw [upd_ne nz]; exact exs) (fun q z => by cases z)
        · rw [upd_ne mt'.symm, upd_ne (ne_of_none et7 hw)]
          exact et7
        · by_cases e : z = m
          · rw [e, upd_same]
            exact ⟨_, rfl, by rw [List.length_append, List.length_singleton]; omega⟩
          · obtain ⟨ys, ey', ly⟩ := ln z hz
            rw [upd_ne e, upd_ne (ne_of_none ey' hw)]
            exact ⟨ys, ey', by omega⟩
      · rintro σ H7 ⟨v9', rfl, nw7, _, _⟩
        exact ⟨_, _, _, _, rfl, nw7⟩
    · rintro σ H' ⟨v5, v7, v8, v9, rfl, nw⟩
      refine ⟨_, rfl, _, rfl, b, a, q, r, rfl, rbS.nw nw, raS.nw nw, tq, tr, nw.tab, fun s1 m1 K1 S1 e1 w1 f1 rz1 => ?_⟩
      have nw1 := nw.trans w1
      refine ⟨_, rfl, _, rfl, b, a, q, r, rfl, rbS.nw nw1, raS.nw nw1, tq, tr, nw1.tab, fun s2 m2 K2 S2 e2 w2 f2 rz2 => ?_⟩
      have nw2 := nw1.trans w2
      obtain rfl : s1 = t1 := tidy_eq S1 T1 fun n => by rw [e1, g1, Bool.or_comm]
      obtain rfl : s2 = t2 := tidy_eq S2 T2 fun n => by rw [e2, g2, Bool.and_comm]
      refine ⟨(by show 2 ≤ sizeLine; decide), fun t ht => ?_⟩
      have nw3 := nw2.new ht (u := .lst [.ref m1, .ref m2])
      have ok22 : ∀ z ∈ [s1, s2], Valid z ∧ z.length ≤ 400 := fun z hz => ok4 z (by
        simp only [List.mem_cons, List.not_mem_nil, or_false] at hz ⊢
        rcases hz with rfl | rfl
        · exact .inl rfl
        · exact .inr (.inl rfl))
      refine ⟨.ref t, rowsDat [s1, s2], rfl, rows_dp (as := [m1, m2]) upd_same (((Exd.refl _).new ht).rows (.cons (rz1.nw w2) (.cons rz2 .nil))), rfl, sm_rows ok22 (by show 2 ≤ 100; decide), ?_⟩
      generalize upd K2 t (.lst [.ref m1, .ref m2]) = K3 at nw3 ⊢
      refine ⟨_, rfl, 2, rfl, d, _, rfl, SqL.of (nw3.lst edS), fun u3 hu3 => ?_⟩
      have cut : cutV ([p1, p2, p3, p4].map V.ref) none (some 2) = [p1, p2].map V.ref := rfl
      rw [cut]
      have nw4 := nw3.new hu3 (u := .lst ([p1, p2].map V.ref))
      have rowsD : RowsAt (upd K3 u3 (.lst ([p1, p2].map V.ref))) [p1, p2] [s1, s2] := by
        have := rowsS.keep nw4.keep
        cases this with
        | cons h1 k1 =>
          cases k1 with
          | cons h2 _ => exact .cons h1 (.cons h2 .nil)
      refine ⟨.ref u3, rowsDat [s1, s2], rfl, rows_dp upd_same rowsD, rfl, sm_rows ok22 (by show 2 ≤ 100; decide), rfl, ?_⟩
      rw [decide_eq_true rfl]
      exact k _ ((x05.nw tab).trans nw4)
end
end LL
namespace LL
open PySem PySem.Spec PyProof.Rows L2
/-- every second number -/
def odds : List Pr := (List.range 200).map fun i => (1 + 2 * i, 2 + 2 * i)
def evens : List Pr := (List.range 200).map fun i => (2 * i, 1 + 2 * i)
theorem odds_tidy : Tidy odds := by decide +kernel
theorem evens_tidy : Tidy evens := by decide +kernel
theorem all_tidy : Tidy [(0, 400)] := by decide +kernel
theorem late_tidy : Tidy [(3, 400)] := by decide +kernel
theorem more_tidy : Tidy (odds.drop 1) := by decide +kernel
theorem by_400 {r : List Pr} {f : Nat → Bool} (t : Tidy r) (h : ∀ n, n < 400 → has r n = f n) (o : ∀ n, ¬ n < 400 → f n = false) : ∀ n, has r n = f n := fun n => by
  by_cases l : n < 400
  · exact h n l
  · rw [o n l]
    cases q : has r n with
    | false => rfl
    | true => exact absurd (has_lt (TidyFrom.valid (b := 0) t) q) l
theorem no_400 {r : List Pr} (t : Tidy r) {n : Nat} (l : ¬ n < 400) : has r n = false := by
  cases q : has r n with
  | false => rfl
  | true => exact absurd (has_lt (TidyFrom.valid (b := 0) t) q) l
theorem odd_even : ∀ n, has [(0, 400)] n = (has odds n || has evens n) := by_400 all_tidy (by decide +kernel) fun n l => by rw [no_400 odds_tidy l, no_400 evens_tidy l]; rfl
theorem odd_and : ∀ n, has [] n = (has odds n && has evens n) := by_400 trivial (by decide +kernel) fun n l => by rw [no_400 odds_tidy l]; rfl
theorem odd_less : ∀ n, has odds n = (has odds n && !has evens n) := by_400 odds_tidy (by decide +kernel) fun n l => by rw [no_400 odds_tidy l]; rfl
theorem all_less : ∀ n, has evens n = (has [(0, 400)] n && !has odds n) := by_400 evens_tidy (by decide +kernel) fun n l => by rw [no_400 all_tidy l]; rfl
theorem odd_late : ∀ n, has (odds.drop 1) n = (has odds n && has [(3, 400)] n) := by_400 more_tidy (by decide +kernel) fun n l => by rw [no_400 odds_tidy l]; rfl
section
variable {P : Program} {w : World} {K : PySem.W.Frag} {mg : Str → Option Value} {base : Heap} {c tb : Addr}
def spLaw (K : PySem.W.Frag) (tb : Addr) : Sp := fun vs H Q _ => ∃ (a : Addr) (ns : List Int), vs = [.ref a] ∧ SqL K H a (ns.map V.int) ∧ ns.length ≤ 63 ∧ GxR.TabG H tb ∧ ∀ H', Q (.bl true) H'
theorem ok_law (D : Defs K mg) (T : Tx K mg) (hc : D.is_runs.fd.code = .ref c) (TB : GxR.TabB base mg c tb) : FnG P w K mg base 12 D.law.f D.law.fd ["_law_script"] (spLaw K tb) := by
  have G_law_box := ok__law_box (P := P) (w := w) (base := base) D T
  have G_law_cell_at := ok__law_cell_at (P := P) (w := w) (base := base) D T
  have G_law_take := ok__law_take (P := P) (w := w) (base := base) D T
  have G_law_rising := ok__law_rising (P := P) (w := w) (base := base) D T
  have Gjoined_runs := ok_joined_runs (P := P) (w := w) (base := base) D T hc TB
  have Gcommon_runs := ok_common_runs (P := P) (w := w) (base := base) D T hc TB
  have Gless_runs := ok_less_runs (P := P) (w := w) (base := base) D T hc TB
  have G_law_marks := ok__law_marks (P := P) (w := w) (base := base) D T
  have G_law_right := ok__law_right (P := P) (w := w) (base := base) D T hc TB
  have G_law_stretches := ok__law_stretches (P := P) (w := w) (base := base) D T
  refine fnG_of D.law.F sclaw (fun vs H Q E h => ?_) (fun cdv A outer s H vs Q E guard hr h => ?_)
  · obtain ⟨a, ns, rfl, _⟩ := h
    rfl
  · obtain ⟨a, ns, rfl, hS, len, tab, k⟩ := h
    refine ⟨_, (pss_cons (ps_for PassesOwn.never rfl (pi_range1 rfl T.b_range (pa_cons (pe_callB (call_max2 rfl) (by rfl) T.b_max (by decide +kernel) (pa_cons pe_int (pa_cons (pe_callB (call_min2 rfl) (by rfl) T.b_min (by decide +kernel) (pa_cons (pe_callB call_len_seq (by rfl) T.b_len (by decide +kernel) (pa_cons (pv 0) pa_nil)) (pa_cons pe_int pa_nil))) pa_nil))) pa_nil)) (pg_name (i := 1) sclaw.nd rfl (Or.inl rfl)) (pss_cons (ps_set (i := 2) sclaw.nd rfl (Or.inr rfl) (pcall D._law_box G_law_box hr (by decide) (by rfl) (pa_cons (pcall D._law_cell_at G_law_cell_at hr (by decide) (by rfl) (pa_cons (pv 0) (pa_cons (pv 1) pa_nil))) pa_nil)))
        (pss_cons (ps_set (i := 3) sclaw.nd rfl (Or.inr rfl) (pe_ix ix_list (pe_lst (pa_cons pe_int (pa_cons pe_int (pa_cons pe_int pa_nil)))) (pcall D._law_take G_law_take hr (by decide) (by rfl) (pa_cons (pv 2) (pa_cons pe_int pa_nil))) (fun _ _ => rfl)))
        (pss_cons (ps_setLc (i := 4) (own := [("_law_j", 5)]) (g := gName 5) (tt := tYes) rfl sclaw.nd rfl rfl (sw_true rfl rfl rfl (by decide +kernel)) (pi_range1 rfl T.b_range (pa_cons pe_int pa_nil)) (blkOk_by (N := sclaw_N) (sc := defScope sclaw_st) (by decide +kernel)) (fun _ _ _ _ _ => pg_name (i := 5) sclaw.nd rfl (Or.inl rfl)) (fun _ _ _ _ _ => pts_nil) (fun _ _ _ _ _ => (pcall D._law_rising G_law_rising hr (by decide) (by rfl) (pa_cons (pcall D._law_marks G_law_marks hr (by decide) (by rfl) (pa_cons (pcall D._law_stretches G_law_stretches hr (by decide) (by rfl) (pa_cons (pv 2) (pa_cons (pv 3) pa_nil))) pa_nil)) pa_nil))))
        (pss_cons (ps_for PassesOwn.never rfl (pi_list (pe_lst (pa_cons (pe_tup (pa_cons (pe_ix ix_list (pv 4) pe_int (fun _ _ => rfl)) (pa_cons (pe_ix ix_list (pv 4) pe_int (fun _ _ => rfl)) pa_nil))) (pa_cons (pe_tup (pa_cons (pe_ix ix_list (pv 4) pe_int (fun _ _ => rfl)) (pa_cons (pe_ix ix_list (pv 4) pe_int (fun _ _ => rfl)) pa_nil))) (pa_cons (pe_tup (pa_cons (pe_ix ix_list (pv 4) pe_int (fun _ _ => rfl)) (pa_cons (pe_ix ix_list (pv 4) pe_int (fun _ _ => rfl)) pa_nil))) (pa_cons (pe_tup (pa_cons (pe_ix ix_list (pv 4) pe_int (fun _ _ => rfl)) (pa_cons (pe_lst pa_nil) pa_nil))) pa_nil)))))) (pg_tup rfl (pgs_cons (pg_name (i := 6) sclaw.nd rfl (Or.inl rfl)) (pgs_cons (pg_name (i := 7) sclaw.nd rfl (Or.inl rfl)) pgs_nil))) (pss_one (ps_if (pt_not (pt_val (pcallG D._law_right G_law_right guard hr (by decide) (by rfl) (pa_cons (pv 6) (pa_cons (pv 7) pa_nil))))) (pss_one (ps_ret pe_bl)) pss_nil)))
        (pss_cons (ps_asg (pv 4) (pg_unl rfl (pgs_cons (pg_name (i := 6) sclaw.nd rfl (Or.inl rfl)) (pgs_cons (pg_name (i := 7) sclaw.nd rfl (Or.inl rfl)) (pgs_cons (pg_name (i := 8) sclaw.nd rfl (Or.inl rfl)) pgs_nil)))))
        (pss_cons (ps_if (pt_cmpR op_ne (pe_callB (call_reprM guard hr) (by rfl) T.b_repr (by decide +kernel) (pa_cons (pcall D.joined_runs Gjoined_runs hr (by decide) (by rfl) (pa_cons (pcall D.common_runs Gcommon_runs hr (by decide) (by rfl) (pa_cons (pv 6) (pa_cons (pv 7) pa_nil))) (pa_cons (pcall D.less_runs Gless_runs hr (by decide) (by rfl) (pa_cons (pv 6) (pa_cons (pv 7) pa_nil))) pa_nil))) pa_nil)) (pe_callB (call_reprM guard hr) (by rfl) T.b_repr (by decide +kernel) (pa_cons (pv 6) pa_nil)) (nomark _)) (pss_one (ps_ret pe_bl)) pss_nil)
        (pss_one (ps_if (pt_cmpR op_ne (pe_callB (call_reprM guard hr) (by rfl) T.b_repr (by decide +kernel) (pa_cons (pcall D.less_runs Gless_runs hr (by decide) (by rfl) (pa_cons (pv 6) (pa_cons (pcall D.joined_runs Gjoined_runs hr (by decide) (by rfl) (pa_cons (pv 7) (pa_cons (pv 8) pa_nil))) pa_nil))) pa_nil)) (pe_callB (call_reprM guard hr) (by rfl) T.b_repr (by decide +kernel) (pa_cons (pcall D.less_runs Gless_runs hr (by decide) (by rfl) (pa_cons (pcall D.less_runs Gless_runs hr (by decide) (by rfl) (pa_cons (pv 6) (pa_cons (pv 7) pa_nil))) (pa_cons (pv 8) pa_nil))) pa_nil)) (nomark _)) (pss_one (ps_ret pe_bl)) pss_nil)))))))))
        (pss_cons (ps_setLc (i := 9) (own := [("_law_number", 10)]) (g := gName 10) (tt := tYes) rfl sclaw.nd rfl rfl (sw_true rfl rfl rfl (by decide +kernel)) (pi_range3 rfl T.b_range (pa_cons pe_int (pa_cons pe_int (pa_cons pe_int pa_nil)))) (blkOk_by (N := sclaw_N) (sc := defScope sclaw_st) (by decide +kernel)) (fun _ _ _ _ _ => pg_name (i := 10) sclaw.nd rfl (Or.inl rfl)) (fun _ _ _ _ _ => pts_nil) (fun _ _ _ _ _ => (pe_tup (pa_cons (pv 10) (pa_cons (pe_op op_add (pv 10) pe_int) pa_nil)))))
        (pss_cons (ps_setLc (i := 11) (own := [("_law_number", 10)]) (g := gName 10) (tt := tYes) rfl sclaw.nd rfl rfl (sw_true rfl rfl rfl (by decide +kernel)) (pi_range3 rfl T.b_range (pa_cons pe_int (pa_cons pe_int (pa_cons pe_int pa_nil)))) (blkOk_by (N := sclaw_N) (sc := defScope sclaw_st) (by decide +kernel)) (fun _ _ _ _ _ => pg_name (i := 10) sclaw.nd rfl (Or.inl rfl)) (fun _ _ _ _ _ => pts_nil) (fun _ _ _ _ _ => (pe_tup (pa_cons (pv 10) (pa_cons (pe_op op_add (pv 10) pe_int) pa_nil)))))
        (pss_cons (ps_if (pt_cmpR (op_neD hr.units) (pe_lst (pa_cons (pcall D.joined_runs Gjoined_runs hr (by decide) (by rfl) (pa_cons (pv 9) (pa_cons (pv 11) pa_nil))) (pa_cons (pcall D.common_runs Gcommon_runs hr (by decide) (by rfl) (pa_cons (pv 9) (pa_cons (pv 11) pa_nil))) (pa_cons (pcall D.less_runs Gless_runs hr (by decide) (by rfl) (pa_cons (pv 9) (pa_cons (pv 11) pa_nil))) pa_nil)))) (pe_lst (pa_cons (pe_lst (pa_cons (pe_tup (pa_cons pe_int (pa_cons pe_int pa_nil))) pa_nil)) (pa_cons (pe_lst pa_nil) (pa_cons (pv 9) pa_nil)))) (nomark _)) (pss_one (ps_ret pe_bl)) pss_nil)
        (pss_one (ps_ret (pe_cmpR (op_eqD hr.units) (pe_lst (pa_cons (pcall D.less_runs Gless_runs hr (by decide) (by rfl) (pa_cons (pe_lst (pa_cons (pe_tup (pa_cons pe_int (pa_cons pe_int pa_nil))) pa_nil)) (pa_cons (pv 9) pa_nil))) (pa_cons (pcall D.common_runs Gcommon_runs hr (by decide) (by rfl) (pa_cons (pv 9) (pa_cons (pe_lst (pa_cons (pe_tup (pa_cons pe_int (pa_cons pe_int pa_nil))) pa_nil)) pa_nil))) pa_nil))) (pe_lst (pa_cons (pv 11) (pa_cons (pe_slice sl_list (pv 9) (po_some pe_int) po_none) pa_nil))) (nomark _)))))))), ?_⟩
    have okR : ∀ {t : List Pr}, Tidy t → Valid t ∧ t.length ≤ 400 := fun {t} tt => ⟨TidyFrom.valid (b := 0) tt, by have := tt.len; omega⟩
    have smR : ∀ {t : List Pr}, Tidy t → Sm (rowDat t) 60 1048576 := fun {t} tt => (sm_row (okR tt).1 (okR tt).2).mono (by decide) (by decide)
    refine ⟨_, rfl, a, _, rfl, .inl hS, _, _, rfl, _, _, rfl, _, rfl, ?_, ?_, for_range (lo := 0) (fun i σ H1 => ∃ v1 v2 v3 v4 v5 v6 v7 v8 v9 v10 v11, σ = [some (.ref a), v1, v2, v3, v4, v5, v6, v7, v8, v9, v10, v11] ∧ Nw tb H H1)
      ⟨_, _, _, _, _, _, _, _, _, _, _, rfl, Nw.refl tab⟩ ?_ ?_⟩
    · split <;> split <;> omega
    · split <;> split <;> omega
    · rintro i σ H1 hi ⟨v1, v2, v3, v4, v5, v6, v7, v8, v9, v10, v11, rfl, nw⟩
      -- the box
      refine ⟨_, rfl, _, rfl, a, i, ns, congrArg (fun y : Int => [V.ref a, V.int y]) (Int.zero_add _), sqL_nw nw hS, fun cell => ⟨cell, rfl, fun p o hp Bo => ?_⟩⟩
      have p0 := nw.free hp
      have nb := nw.new hp (u := o)
      have ep : (upd H1 p o) p = some o := upd_same
      generalize upd H1 p o = H2 at nb ep ⊢
      refine ⟨(by show 3 ≤ sizeLine; decide), fun q1 hq1 => ?_⟩
      have nb1 := nb.new hq1 (u := .lst [.int 12, .int 40, .int 400])
      have ep1 : (upd H2 q1 (.lst [.int 12, .int 40, .int 400])) p = some o := by rw [upd_ne (ne_of_none ep hq1)]; exact ep
      have e1 : (upd H2 q1 (.lst [.int 12, .int 40, .int 400])) q1 = some (.lst [.int 12, .int 40, .int 400]) := upd_same
      have n1 : q1 ≠ p := (ne_of_none ep hq1).symm
      generalize upd H2 q1 (.lst [.int 12, .int 40, .int 400]) = H3 at nb1 ep1 e1 ⊢
      refine ⟨_, rfl, p, o, 3, rfl, ep1, Bo, by decide, by decide, fun r1 o1 r10 r11 B1 => ?_⟩
      obtain ⟨v, hv, hv2⟩ := three_at (x0 := .int 12) (x1 := .int 40) (x2 := .int 400) r10 r11
      obtain ⟨m, rfl, m0, m4⟩ : ∃ m : Int, v = .int m ∧ 0 < m ∧ m ≤ 400 := by
        rcases hv2 with rfl | rfl | rfl
        · exact ⟨12, rfl, by decide, by decide⟩
        · exact ⟨40, rfl, by decide, by decide⟩
        · exact ⟨400, rfl, by decide, by decide⟩
      refine ⟨q1, _, _, _, rfl, rfl, SqL.of (by rw [upd_ne n1]; exact e1), hv, ?_⟩
      have nb2 := nb1.kept p0 ⟨o, ep1, Bo⟩ (Kept.upd (o := o1) B1)
      have ep2 : (upd H3 p o1) p = some o1 := upd_same
      generalize upd H3 p o1 = H4 at nb2 ep2 ⊢
      -- three rows
      refine ⟨3, rfl, by decide, by decide, fun Dl hD => ?_⟩
      have nDp : Dl ≠ p := (ne_of_none ep2 hD).symm
      refine lc_range (lo := 0) (n := (3 : Int).toNat) (fun j H' => ∃ as rs, H' Dl = some (.lst (as.map V.ref)) ∧ RowsAt H' as rs ∧ (∀ r ∈ rs, Tidy r) ∧ as.length = j ∧ (∀ z ∈ as, z ≠ Dl) ∧ Nw tb H H' ∧ ∃ o, H' p = some o ∧ BoxO o)
        ⟨[], [], upd_same, .nil, (fun r hr => nomatch hr), rfl, (fun z hz => nomatch hz), nb2.new hD, o1, by rw [upd_ne nDp.symm]; exact ep2, B1⟩ ?_ ?_
      · rintro j H5 hj ⟨as, rs, eD, rows, ti, al, nD, n5, o5, ep5, B5⟩
        refine ⟨rfl, ?_⟩
        refine ⟨_, rfl, _, rfl, p, o5, m, rfl, ep5, B5, m0, m4, fun t1 w1 H6 V1 k6 f1 row1 => ?_⟩
        refine ⟨w1, t1, rfl, row1, V1, fun w2 H7 x7 f2 ew2 => ?_⟩
        refine ⟨w2, has t1, rfl, ew2, fun t3 w3 H8 T3 h3 x8 f3 row3 => ?_⟩
        have n6 := n5.kept p0 ⟨o5, ep5, B5⟩ k6
        have x68 := x7.trans x8
        have n8 : Nw tb H H8 := n6.trans (x68.nw n6.tab)
        have eD6 : H6 Dl = some (.lst (as.map V.ref)) := k6.old Dl _ nDp eD
        have eD8 := x68 _ _ eD6
        obtain ⟨o6, ep6, B6⟩ := k6.box
        have nw3 : w3 ≠ Dl := (ne_of_none (x7 _ _ eD6) f3).symm
        have D0 : H Dl = none := nb2.free hD
        refine ⟨_, eD8, ?_, as ++ [w3], rs ++ [t3], ?_, ?_, fun r hr => ?_, ?_, fun z hz => ?_, n8.put D0 eD8 (fun q z => by cases z), o6, ?_, B6⟩
        · rw [List.length_map, al]
          have : j < 3 := hj
          have := PySem.sizeLine_eq
          omega
        · rw [List.map_append]
          exact upd_same
        · refine ((x68.rows (rows.kept ⟨o5, ep5, B5⟩ k6)).app (.cons row3 .nil)).upd (fun z hz => ?_) eD8
          rcases List.mem_append.mp hz with hz | hz
          · exact nD z hz
          · rw [List.mem_singleton.mp hz]
            exact nw3
        · rcases List.mem_append.mp hr with hr | hr
          · exact ti r hr
          · rw [List.mem_singleton.mp hr]
            exact T3
        · rw [List.length_append, al]
          rfl
        · rcases List.mem_append.mp hz with hz | hz
          · exact nD z hz
          · rw [List.mem_singleton.mp hz]
            exact nw3
        · rw [upd_ne nDp.symm]
          exact x68 _ _ ep6
      · rintro H5 ⟨as, rs, eD, rows, ti, al, nD, n5, o5, ep5, B5⟩
        obtain ⟨a1, a2, a3, rfl⟩ : ∃ a1 a2 a3, as = [a1, a2, a3] := by
          match as, al with
          | [a1, a2, a3], _ => exact ⟨a1, a2, a3, rfl⟩
        obtain ⟨t1, t2, t3, rfl, ra1, ra2, ra3⟩ : ∃ t1 t2 t3, rs = [t1, t2, t3] ∧ RowAt H5 a1 t1 ∧ RowAt H5 a2 t2 ∧ RowAt H5 a3 t3 := by
          cases rows with
          | cons h1 k1 =>
            cases k1 with
            | cons h2 k2 =>
              cases k2 with
              | cons h3 k3 =>
                cases k3
                exact ⟨_, _, _, rfl, h1, h2, h3⟩
        have T1 : Tidy t1 := ti _ List.mem_cons_self
        have T2 : Tidy t2 := ti _ (List.mem_cons_of_mem _ List.mem_cons_self)
        have T3 : Tidy t3 := ti _ (List.mem_cons_of_mem _ (List.mem_cons_of_mem _ List.mem_cons_self))
        have at0_ : atI ([a1, a2, a3].map V.ref) 0 = some (.ref a1) := atI_nat (j := 0) rfl
        have at1_ : atI ([a1, a2, a3].map V.ref) 1 = some (.ref a2) := atI_nat (j := 1) rfl
        have at2_ : atI ([a1, a2, a3].map V.ref) 2 = some (.ref a3) := atI_nat (j := 2) rfl
        -- the pairs
        refine ⟨_, rfl, Dl, _, _, _, rfl, rfl, SqL.of eD, at0_, _, rfl, Dl, _, _, _, rfl, rfl, SqL.of eD, at1_, (by show 2 ≤ sizeLine; decide), fun b1 hb1 => ?_⟩
        have y1 : Exd H5 (upd H5 b1 (.tup [.ref a1, .ref a2])) := (Exd.refl _).new hb1
        have z1 : (upd H5 b1 (.tup [.ref a1, .ref a2])) b1 = some (.tup [.ref a1, .ref a2]) := upd_same
        generalize upd H5 b1 (.tup [.ref a1, .ref a2]) = G1 at y1 z1 ⊢
        refine ⟨_, rfl, Dl, _, _, _, rfl, rfl, SqL.of (y1 _ _ eD), at1_, _, rfl, Dl, _, _, _, rfl, rfl, SqL.of (y1 _ _ eD), at2_, (by show 2 ≤ sizeLine; decide), fun b2 hb2 => ?_⟩
        have y2 := y1.new hb2 (u := .tup [.ref a2, .ref a3])
        have z12 : (upd G1 b2 (.tup [.ref a2, .ref a3])) b1 = some (.tup [.ref a1, .ref a2]) := (Exd.refl _).new hb2 _ _ z1
        have z22 : (upd G1 b2 (.tup [.ref a2, .ref a3])) b2 = some (.tup [.ref a2, .ref a3]) := upd_same
        generalize upd G1 b2 (.tup [.ref a2, .ref a3]) = G2 at y2 z12 z22 ⊢
        refine ⟨_, rfl, Dl, _, _, _, rfl, rfl, SqL.of (y2 _ _ eD), at0_, _, rfl, Dl, _, _, _, rfl, rfl, SqL.of (y2 _ _ eD), at0_, (by show 2 ≤ sizeLine; decide), fun b3 hb3 => ?_⟩
        have y3 := y2.new hb3 (u := .tup [.ref a1, .ref a1])
        have z13 : (upd G2 b3 (.tup [.ref a1, .ref a1])) b1 = some (.tup [.ref a1, .ref a2]) := (Exd.refl _).new hb3 _ _ z12
        have z23 : (upd G2 b3 (.tup [.ref a1, .ref a1])) b2 = some (.tup [.ref a2, .ref a3]) := (Exd.refl _).new hb3 _ _ z22
        have z33 : (upd G2 b3 (.tup [.ref a1, .ref a1])) b3 = some (.tup [.ref a1, .ref a1]) := upd_same
        generalize upd G2 b3 (.tup [.ref a1, .ref a1]) = G3 at y3 z13 z23 z33 ⊢
        refine ⟨_, rfl, Dl, _, _, _, rfl, rfl, SqL.of (y3 _ _ eD), at0_, (by show 0 ≤ sizeLine; decide), fun e0 he0 => ⟨(by show 2 ≤ sizeLine; decide), fun b4 hb4 => ⟨(by show 4 ≤ sizeLine; decide), fun L hL => ?_⟩⟩⟩
        have y6 := ((y3.new he0 (u := .lst [])).new hb4 (u := .tup [.ref a1, .ref e0])).new hL (u := .lst [.ref b1, .ref b2, .ref b3, .ref b4])
        have y36 : Exd G3 (upd (upd (upd G3 e0 (.lst [])) b4 (.tup [.ref a1, .ref e0])) L (.lst [.ref b1, .ref b2, .ref b3, .ref b4])) := (((Exd.refl _).new he0).new hb4).new hL
        have y46 : Exd (upd G3 e0 (.lst [])) (upd (upd (upd G3 e0 (.lst [])) b4 (.tup [.ref a1, .ref e0])) L (.lst [.ref b1, .ref b2, .ref b3, .ref b4])) := ((Exd.refl _).new hb4).new hL
        have y56 : Exd (upd (upd G3 e0 (.lst [])) b4 (.tup [.ref a1, .ref e0])) (upd (upd (upd G3 e0 (.lst [])) b4 (.tup [.ref a1, .ref e0])) L (.lst [.ref b1, .ref b2, .ref b3, .ref b4])) := (Exd.refl _).new hL
        have z16 := y36 _ _ z13
        have z26 := y36 _ _ z23
        have z36 := y36 _ _ z33
        have rowE : RowAt (upd (upd (upd G3 e0 (.lst [])) b4 (.tup [.ref a1, .ref e0])) L (.lst [.ref b1, .ref b2, .ref b3, .ref b4])) e0 [] := ⟨[], y46 _ _ upd_same, .nil⟩
        have z46 : (upd (upd (upd G3 e0 (.lst [])) b4 (.tup [.ref a1, .ref e0])) L (.lst [.ref b1, .ref b2, .ref b3, .ref b4])) b4 = some (.tup [.ref a1, .ref e0]) := y56 _ _ upd_same
        have eL : (upd (upd (upd G3 e0 (.lst [])) b4 (.tup [.ref a1, .ref e0])) L (.lst [.ref b1, .ref b2, .ref b3, .ref b4])) L = some (.lst ([b1, b2, b3, b4].map V.ref)) := upd_same
        generalize upd (upd (upd G3 e0 (.lst [])) b4 (.tup [.ref a1, .ref e0])) L (.lst [.ref b1, .ref b2, .ref b3, .ref b4]) = G6 at y6 z16 z26 z36 rowE z46 eL ⊢
        have n6 : Nw tb H G6 := n5.trans (y6.nw n5.tab)
        have rb1 := y6.row ra1
        have rb2 := y6.row ra2
        have rb3 := y6.row ra3
        have eD6 := y6 _ _ eD
        have pair : ∀ z ∈ [b1, b2, b3, b4], ∃ x y r q, G6 z = some (.tup [.ref x, .ref y]) ∧ RowAt G6 x r ∧ RowAt G6 y q ∧ Tidy r ∧ Tidy q := fun z hz => by
          simp only [List.mem_cons, List.not_mem_nil, or_false] at hz
          rcases hz with rfl | rfl | rfl | rfl
          · exact ⟨_, _, _, _, z16, rb1, rb2, T1, T2⟩
          · exact ⟨_, _, _, _, z26, rb2, rb3, T2, T3⟩
          · exact ⟨_, _, _, _, z36, rb1, rb1, T1, T1⟩
          · exact ⟨_, _, _, _, z46, rb1, rowE, T1, trivial⟩
        refine ⟨L, rfl, ⟨_, SqL.of eL⟩, for_list (K := K) (a := L) (xs := [b1, b2, b3, b4].map V.ref) (fun j σ H' => ∃ v6 v7, σ = [some (.ref a), some (.int ((0 : Int) + (i : Int))), some (.ref p), some (.int m), some (.ref Dl), v5, v6, v7, v8, v9, v10, v11] ∧ Nw tb G6 H')
          ⟨_, _, rfl, Nw.refl n6.tab⟩ (fun j σ H' _ ⟨_, _, _, n⟩ => SqL.of (n.lst eL)) ?_ ?_⟩
        · rintro j z σ H7 hz ⟨v6', v7', rfl, n7⟩
          obtain ⟨b, hb, rfl⟩ := List.mem_map.mp (List.mem_of_getElem? hz)
          obtain ⟨x, y, r, q, ez, rx, ry, tx, ty⟩ := pair b hb
          refine ⟨b, _, rfl, SqT.of (n7.tup ez), rfl, _, _, rfl, _, _, rfl, rfl, ?_⟩
          exact ⟨_, rfl, _, rfl, x, y, r, q, rfl, rx.nw n7, ry.nw n7, tx, ty, n7.tab, fun H8 n8 => ⟨_, rfl, iteF ⟨_, _, rfl, n7.trans n8⟩⟩⟩
        · rintro σ H7 ⟨v6', v7', rfl, n7⟩
          have eD7 := n7.lst eD6
          refine ⟨_, rfl, Dl, _, rfl, SqL.of eD7, rfl, _, _, rfl, _, _, rfl, _, _, rfl, rfl, ?_⟩
          -- what is common and what is less, together
          have rc1 := rb1.nw n7
          have rc2 := rb2.nw n7
          have rc3 := rb3.nw n7
          refine ⟨_, rfl, _, rfl, a1, a2, t1, t2, rfl, rc1, rc2, T1, T2, n7.tab, fun s1 w1 K1 S1 g1 m1 f1 rw1 => ?_⟩
          refine ⟨_, rfl, _, rfl, a1, a2, t1, t2, rfl, rc1.nw m1, rc2.nw m1, T1, T2, m1.tab, fun s2 w2 K2 S2 g2 m2 f2 rw2 => ?_⟩
          refine ⟨w1, w2, s1, s2, rfl, rw1.nw m2, rw2, S1, S2, m2.tab, fun s3 w3 K3 S3 g3 m3 f3 rw3 => ?_⟩
          have m13 := (m1.trans m2).trans m3
          obtain rfl : s3 = t1 := tidy_eq S3 T1 fun n => by
            rw [g3, g1, g2]
            cases has t1 n <;> cases has t2 n <;> rfl
          refine ⟨.ref w3, rowDat s3, rfl, rw3.dp, rfl, smR T1, ?_⟩
          refine ⟨_, rfl, .ref a1, rowDat s3, rfl, (rc1.nw m13).dp, rfl, smR T1, rfl, _, rfl, ?_⟩
          rw [decide_eq_true rfl]
          refine iteF ?_
          -- less of what is joined
          have rd1 := rc1.nw m13
          have rd2 := rc2.nw m13
          have rd3 := rc3.nw m13
          refine ⟨_, rfl, _, rfl, _, rfl, a2, a3, t2, t3, rfl, rd2, rd3, T2, T3, m13.tab, fun s4 w4 K4 S4 g4 m4 f4 rw4 => ?_⟩
          refine ⟨a1, w4, s3, s4, rfl, rd1.nw m4, rw4, T1, S4, m4.tab, fun s5 w5 K5 S5 g5 m5 f5 rw5 => ?_⟩
          refine ⟨.ref w5, rowDat s5, rfl, rw5.dp, rfl, smR S5, ?_⟩
          have m45 := m4.trans m5
          refine ⟨_, rfl, _, rfl, a1, a2, s3, t2, rfl, rd1.nw m45, rd2.nw m45, T1, T2, m45.tab, fun s6 w6 K6 S6 g6 m6 f6 rw6 => ?_⟩
          refine ⟨_, rfl, w6, a3, s6, t3, rfl, rw6, (rd3.nw m45).nw m6, S6, T3, m6.tab, fun s7 w7 K7 S7 g7 m7 f7 rw7 => ?_⟩
          obtain rfl : s7 = s5 := tidy_eq S7 S5 fun n => by
            rw [g7, g6, g5, g4]
            cases has s3 n <;> cases has t2 n <;> cases has t3 n <;> rfl
          refine ⟨.ref w7, rowDat s7, rfl, rw7.dp, rfl, smR S5, rfl, _, rfl, ?_⟩
          rw [decide_eq_true rfl]
          refine iteF ?_
          exact ⟨_, _, _, _, _, _, _, _, _, _, _, rfl, n6.trans (((n7.trans m13).trans m45).trans (m6.trans m7))⟩
    · rintro σ H1 ⟨v1, v2, v3, v4, v5, v6, v7, v8, v9, v10, v11, rfl, nw⟩
      have two : ∀ (f : Nat → Pr) (i j : Int) (D : Addr) (as : List Addr) (n : Nat) (G : Hp), G D = some (.lst (as.map V.ref)) → PrsAt G as ((List.range n).map f) → (f n).1 = i → (f n).2 = j → ∀ t, G t = none →
          RowAt (upd (upd G t (.tup [.int i, .int j])) D (.lst (as.map V.ref ++ [.ref t]))) D ((List.range (n + 1)).map f) := by
        intro f i j D as n G eD pr hi hj t ht
        have nt := ne_of_none eD ht
        refine ⟨as ++ [t], ?_, ?_⟩
        · rw [List.map_append]
          exact upd_same
        · rw [List.range_succ, List.map_append]
          refine (pr.put fun q xs e => ?_).app (.cons ?_ .nil)
          · rw [upd_ne (ne_of e eD (by intro z; cases z)), upd_ne (ne_of_none e ht)]
            exact e
          · rw [upd_ne nt.symm, upd_same, ← hi, ← hj]
      have big : ∀ {G : Hp} {as : List Addr} {n : Nat} {f : Nat → Pr}, PrsAt G as ((List.range n).map f) → n < 400 → (as.map V.ref).length < sizeLine := fun {G as n f} pr h => by
        rw [List.length_map, pr.len, List.length_map, List.length_range]
        have := PySem.sizeLine_eq
        omega
      -- odd ones
      refine ⟨1, 400, 2, 200, rfl, ⟨by decide, by decide, by decide +kernel, by decide +kernel⟩, fun D1 hD1 => ?_⟩
      have D10 := nw.free hD1
      refine lc_step (fun j H' => Nw tb H H' ∧ RowAt H' D1 ((List.range j).map fun i => (1 + 2 * i, 2 + 2 * i))) ⟨nw.new hD1, [], upd_same, .nil⟩ ?_ ?_
      · rintro j H2 hj ⟨n2, as, eD, pr⟩
        refine ⟨rfl, _, rfl, _, rfl, _, _, rfl, rfl, (by show 2 ≤ sizeLine; decide), fun t ht => ?_⟩
        refine ⟨_, (by rw [upd_ne (ne_of_none eD ht)]; exact eD), big pr (by omega), (n2.new ht).put D10 (o := .lst (as.map V.ref)) (by rw [upd_ne (ne_of_none eD ht)]; exact eD) (fun q z => by cases z), ?_⟩
        exact two (fun i => (1 + 2 * i, 2 + 2 * i)) _ _ D1 as j H2 eD pr (by push_cast; omega) (by push_cast; omega) t ht
      rintro H2 ⟨n2, r2⟩
      have r2 : RowAt H2 D1 odds := r2
      -- even ones
      refine ⟨0, 400, 2, 200, rfl, ⟨by decide, by decide, by decide +kernel, by decide +kernel⟩, fun D2 hD2 => ?_⟩
      have D20 := n2.free hD2
      refine lc_step (fun j H' => Nw tb H2 H' ∧ RowAt H' D2 ((List.range j).map fun i => (2 * i, 1 + 2 * i))) ⟨(Nw.refl n2.tab).new hD2, [], upd_same, .nil⟩ ?_ ?_
      · rintro j H3 hj ⟨n3, as, eD, pr⟩
        refine ⟨rfl, _, rfl, _, rfl, _, _, rfl, rfl, (by show 2 ≤ sizeLine; decide), fun t ht => ?_⟩
        refine ⟨_, (by rw [upd_ne (ne_of_none eD ht)]; exact eD), big pr (by omega), (n3.new ht).put hD2 (o := .lst (as.map V.ref)) (by rw [upd_ne (ne_of_none eD ht)]; exact eD) (fun q z => by cases z), ?_⟩
        exact two (fun i => (2 * i, 1 + 2 * i)) _ _ D2 as j H3 eD pr (by push_cast; omega) (by push_cast; omega) t ht
      rintro H3 ⟨n3, r3⟩
      have r3 : RowAt H3 D2 evens := r3
      have r1 := r2.nw n3
      -- of both
      refine ⟨_, rfl, _, rfl, D1, D2, odds, evens, rfl, r1, r3, odds_tidy, evens_tidy, n3.tab, fun s1 w1 K1 S1 g1 m1 f1 rw1 => ?_⟩
      refine ⟨_, rfl, _, rfl, D1, D2, odds, evens, rfl, r1.nw m1, r3.nw m1, odds_tidy, evens_tidy, m1.tab, fun s2 w2 K2 S2 g2 m2 f2 rw2 => ?_⟩
      have m12 := m1.trans m2
      refine ⟨_, rfl, _, rfl, D1, D2, odds, evens, rfl, r1.nw m12, r3.nw m12, odds_tidy, evens_tidy, m12.tab, fun s3 w3 K3 S3 g3 m3 f3 rw3 => ?_⟩
      have m13 := m12.trans m3
      obtain rfl : s1 = [(0, 400)] := tidy_eq S1 all_tidy fun n => (g1 n).trans (odd_even n).symm
      obtain rfl : s2 = [] := tidy_eq S2 trivial fun n => (g2 n).trans (odd_and n).symm
      obtain rfl : s3 = odds := tidy_eq S3 odds_tidy fun n => (g3 n).trans (odd_less n).symm
      refine ⟨(by show 3 ≤ sizeLine; decide), fun l1 hl1 => ?_⟩
      have m14 := m13.new hl1 (u := .lst [.ref w1, .ref w2, .ref w3])
      have rowsA : RowsAt (upd K3 l1 (.lst [.ref w1, .ref w2, .ref w3])) [w1, w2, w3] [[(0, 400)], [], odds] := ((Exd.refl _).new hl1).rows (.cons (rw1.nw (m2.trans m3)) (.cons (rw2.nw m3) (.cons rw3 .nil)))
      have eA : (upd K3 l1 (.lst [.ref w1, .ref w2, .ref w3])) l1 = some (.lst ([w1, w2, w3].map V.ref)) := upd_same
      generalize upd K3 l1 (.lst [.ref w1, .ref w2, .ref w3]) = K4 at m14 rowsA eA ⊢
      refine ⟨(by show 2 ≤ sizeLine; decide), fun u1 hu1 => ⟨(by show 1 ≤ sizeLine; decide), fun u2 hu2 => ⟨(by show 0 ≤ sizeLine; decide), fun u3 hu3 => ⟨_, rfl, (by show 3 ≤ sizeLine; decide), fun l2 hl2 => ?_⟩⟩⟩⟩
      have x1 : Exd K4 (upd K4 u1 (.tup [.int 0, .int 400])) := (Exd.refl _).new hu1
      have a1 : (upd K4 u1 (.tup [.int 0, .int 400])) u1 = some (.tup [.int 0, .int 400]) := upd_same
      generalize upd K4 u1 (.tup [.int 0, .int 400]) = K5 at x1 a1 hu2 hu3 hl2 ⊢
      have x2 : Exd K5 (upd K5 u2 (.lst [.ref u1])) := (Exd.refl _).new hu2
      have a2 : (upd K5 u2 (.lst [.ref u1])) u2 = some (.lst ([u1].map V.ref)) := upd_same
      generalize upd K5 u2 (.lst [.ref u1]) = K6 at x2 a2 hu3 hl2 ⊢
      have x3 : Exd K6 (upd K6 u3 (.lst [])) := (Exd.refl _).new hu3
      have a3 : (upd K6 u3 (.lst [])) u3 = some (.lst (([] : List Addr).map V.ref)) := upd_same
      generalize upd K6 u3 (.lst []) = K7 at x3 a3 hl2 ⊢
      have x4 : Exd K7 (upd K7 l2 (.lst [.ref u2, .ref u3, .ref D1])) := (Exd.refl _).new hl2
      have a4 : (upd K7 l2 (.lst [.ref u2, .ref u3, .ref D1])) l2 = some (.lst ([u2, u3, D1].map V.ref)) := upd_same
      generalize upd K7 l2 (.lst [.ref u2, .ref u3, .ref D1]) = K8 at x4 a4 ⊢
      have x58 := (x2.trans x3).trans x4
      have x48 := x1.trans x58
      have m8 : Nw tb H3 K8 := m14.trans (x48.nw m14.tab)
      have rowsB : RowsAt K8 [u2, u3, D1] [[(0, 400)], [], odds] :=
        .cons ⟨[u1], (x3.trans x4) _ _ a2, .cons (x58 _ _ a1) .nil⟩ (.cons ⟨[], x4 _ _ a3, .nil⟩ (.cons (r1.nw m8) .nil))
      have ok3 : ∀ z ∈ ([[(0, 400)], [], odds] : List (List Pr)), Valid z ∧ z.length ≤ 400 := fun z hz => by
        simp only [List.mem_cons, List.not_mem_nil, or_false] at hz
        rcases hz with rfl | rfl | rfl
        · exact okR all_tidy
        · exact okR trivial
        · exact okR odds_tidy
      have sh3 := (sm_rows ok3 (by show 3 ≤ 100; decide)).shaped (Nat.le_refl _)
      refine ⟨rowsDat [[(0, 400)], [], odds], rowsDat [[(0, 400)], [], odds], rows_dp (x48 _ _ eA) (x48.rows rowsA), rows_dp a4 rowsB, sh3, sh3, _, rfl, ?_⟩
      rw [rowsDat_eqv, decide_eq_true rfl]
      refine iteF ?_
      -- the last question
      refine ⟨(by show 2 ≤ sizeLine; decide), fun u4 hu4 => ⟨(by show 1 ≤ sizeLine; decide), fun u5 hu5 => ⟨_, rfl, ?_⟩⟩⟩
      have x9 : Exd K8 (upd K8 u4 (.tup [.int 0, .int 400])) := (Exd.refl _).new hu4
      have a9 : (upd K8 u4 (.tup [.int 0, .int 400])) u4 = some (.tup [.int 0, .int 400]) := upd_same
      generalize upd K8 u4 (.tup [.int 0, .int 400]) = K9 at x9 a9 hu5 ⊢
      have x10 : Exd K9 (upd K9 u5 (.lst [.ref u4])) := (Exd.refl _).new hu5
      have r10 : RowAt (upd K9 u5 (.lst [.ref u4])) u5 [(0, 400)] := ⟨[u4], upd_same, .cons (x10 _ _ a9) .nil⟩
      generalize upd K9 u5 (.lst [.ref u4]) = K10 at x10 r10 ⊢
      have m10 : Nw tb H3 K10 := m8.trans ((x9.trans x10).nw m8.tab)
      refine ⟨u5, D1, [(0, 400)], odds, rfl, r10, r1.nw m10, all_tidy, odds_tidy, m10.tab, fun s4 w4 K11 S4 g4 m11 f4 rw4 => ?_⟩
      obtain rfl : s4 = evens := tidy_eq S4 evens_tidy fun n => (g4 n).trans (all_less n).symm
      refine ⟨_, rfl, (by show 2 ≤ sizeLine; decide), fun u6 hu6 => ⟨(by show 1 ≤ sizeLine; decide), fun u7 hu7 => ?_⟩⟩
      have m110 := m10.trans m11
      have x12 : Exd K11 (upd K11 u6 (.tup [.int 3, .int 400])) := (Exd.refl _).new hu6
      have a12 : (upd K11 u6 (.tup [.int 3, .int 400])) u6 = some (.tup [.int 3, .int 400]) := upd_same
      generalize upd K11 u6 (.tup [.int 3, .int 400]) = K12 at x12 a12 hu7 ⊢
      have x13 : Exd K12 (upd K12 u7 (.lst [.ref u6])) := (Exd.refl _).new hu7
      have r13 : RowAt (upd K12 u7 (.lst [.ref u6])) u7 [(3, 400)] := ⟨[u6], upd_same, .cons (x13 _ _ a12) .nil⟩
      generalize upd K12 u7 (.lst [.ref u6]) = K13 at x13 r13 ⊢
      have m13' : Nw tb K11 K13 := (x12.trans x13).nw m11.tab
      have m130 := m110.trans m13'
      refine ⟨D1, u7, odds, [(3, 400)], rfl, r1.nw m130, r13, odds_tidy, late_tidy, m130.tab, fun s5 w5 K14 S5 g5 m14' f5 rw5 => ?_⟩
      obtain rfl : s5 = odds.drop 1 := tidy_eq S5 more_tidy fun n => (g5 n).trans (odd_late n).symm
      refine ⟨(by show 2 ≤ sizeLine; decide), fun l3 hl3 => ?_⟩
      have m140 := m130.trans m14'
      have rowsC : RowsAt (upd K14 l3 (.lst [.ref w4, .ref w5])) [w4, w5] [evens, odds.drop 1] := ((Exd.refl _).new hl3).rows (.cons (rw4.nw (m13'.trans m14')) (.cons rw5 .nil))
      have eC : (upd K14 l3 (.lst [.ref w4, .ref w5])) l3 = some (.lst ([w4, w5].map V.ref)) := upd_same
      have m150 := m140.new hl3 (u := .lst [.ref w4, .ref w5])
      generalize upd K14 l3 (.lst [.ref w4, .ref w5]) = K15 at rowsC eC m150 ⊢
      obtain ⟨qs, eq1, pq⟩ := r1.nw m150
      refine ⟨_, rfl, _, rfl, 1, rfl, D1, _, rfl, SqL.of eq1, fun u8 hu8 => ⟨(by show 2 ≤ sizeLine; decide), fun l4 hl4 => ?_⟩⟩
      have lq : qs.length = 200 := by rw [pq.len]; decide +kernel
      have cut : cutV (qs.map V.ref) (some 1) none = (qs.drop 1).map V.ref := by
        unfold cutV
        rw [List.length_map, lq]
        have s1 : HT.sIx 200 0 (some 1) = 1 := by decide
        have s2 : HT.sIx 200 200 none = 200 := by decide
        rw [s1, s2, List.take_of_length_le (by rw [List.length_drop, List.length_map, lq]; decide), List.map_drop]
      have pd : ∀ {G : Hp} {as : List Addr} {r : List Pr}, PrsAt G as r → PrsAt G (as.drop 1) (r.drop 1) := fun {G as r} h => by
        cases h with
        | nil => exact .nil
        | cons _ t => exact t
      rw [cut] at hl4 ⊢
      have x16 : Exd K15 (upd K15 u8 (.lst ((qs.drop 1).map V.ref))) := (Exd.refl _).new hu8
      have r16 : RowAt (upd K15 u8 (.lst ((qs.drop 1).map V.ref))) u8 (odds.drop 1) := ⟨qs.drop 1, upd_same, (pd pq).put fun q xs e => x16 _ _ e⟩
      generalize upd K15 u8 (.lst ((qs.drop 1).map V.ref)) = K16 at x16 r16 hl4 ⊢
      have x17 : Exd K16 (upd K16 l4 (.lst [.ref D2, .ref u8])) := (Exd.refl _).new hl4
      have eF : (upd K16 l4 (.lst [.ref D2, .ref u8])) l4 = some (.lst ([D2, u8].map V.ref)) := upd_same
      generalize upd K16 l4 (.lst [.ref D2, .ref u8]) = K17 at x17 eF ⊢
      have x167 := x16.trans x17
      have m170 : Nw tb H3 K17 := m150.trans (x167.nw m150.tab)
      have rowsF : RowsAt K17 [D2, u8] [evens, odds.drop 1] := .cons (r3.nw m170) (.cons (x17.row r16) .nil)
      have ok2 : ∀ z ∈ ([evens, odds.drop 1] : List (List Pr)), Valid z ∧ z.length ≤ 400 := fun z hz => by
        simp only [List.mem_cons, List.not_mem_nil, or_false] at hz
        rcases hz with rfl | rfl
        · exact okR evens_tidy
        · exact okR more_tidy
      have sh2 := (sm_rows ok2 (by show 2 ≤ 100; decide)).shaped (Nat.le_refl _)
      refine ⟨rowsDat [evens, odds.drop 1], rowsDat [evens, odds.drop 1], rows_dp (x167 _ _ eC) (x167.rows rowsC), rows_dp eF rowsF, sh2, sh2, ?_⟩
      rw [rowsDat_eqv, decide_eq_true rfl]
      exact k _
end
end LL
namespace LL
open PySem PySem.Spec PyProof.Rows L2
theorem finish {l : PySem.W.OpenLaw} {w : World} {K : PySem.W.Frag} {h : Heap} {mg : Str → Option Value} {fa c tb : Addr} (hfa : mg "law" = some (.ref fa)) (D : Defs K mg) (T : Tx K mg)
    (hc : D.is_runs.fd.code = .ref c) (bind : ∀ (s : Shared) (u : Value), BindsTo s D.law.fd ⟨[u], []⟩ [("_law_script", u)])
    (e1 : h.get? tb = some { cls := .none, data := .fields #[] }) (e2 : K.lookup tb = none) (e3 : PySem.W.CodeHd h c tb) : LawG l w K 12 63 "_law_script" mg fa h := by
  have ef : D.law.f = fa := by
    have := D.law.m.symm.trans hfa
    injection this with this
    injection this
  refine ⟨D.law.fd, [(c, tb)], spLaw K tb, ?_, ?_, ?_, bind, ?_, ?_⟩
  · intro p hp
    rw [List.mem_singleton.mp hp]
    exact e1
  · intro p hp
    rw [List.mem_singleton.mp hp]
    exact e2
  · intro p hp
    rw [List.mem_singleton.mp hp]
    exact e3
  · intro H a ns hl ht hs
    exact ⟨a, ns, rfl, hs, hl, ⟨#[], ht (c, tb) List.mem_cons_self, trivial⟩, fun _ => rfl⟩
  · intro base _ _ TB
    have t := TB (c, tb) List.mem_cons_self
    have ok := ok_law (P := l.prog) (w := w) (base := base) D T hc t
    rw [ef] at ok
    exact ok
end LL
open PySem PySem.W PyProof.Rows in
set_option maxRecDepth 100000 in
set_option maxHeartbeats 0 in
theorem PySem.Challenge.cw_leastlore_k15_sets_of_rows_holds : PySem.Challenge.rw_leastlore_k15_sets_of_rows.Holds := by
  w_on; o_law; k_head; (case hw => w_witness2)
  k_fill
  refine LL.walk_G (l := PySem.Challenge.rw_leastlore_k15_sets_of_rows) (arg := "_law_script") (lvl := 12) (most := 63) rfl (by decide) rfl ⟨rfl, by decide, by decide⟩ (fun w h Y => PySem.W.kIn_of Y) ?F
  case F =>
    intro w mg fa h Y KX G hmg own
    refine' LL.finish hmg ⟨(LL.dn_mk (x := "mask_between") (st := LL.scmaskbetween_st) (ps := ["begin", "end"]) KX G ?ad_mask_between ?ld_mask_between ?cd_mask_between ?kd_mask_between (fun _ _ _ _ _ _ us hl => match us, hl with | [_, _], _ => rfl)), (LL.dn_mk (x := "mask_of") (st := LL.scmaskof_st) (ps := ["runs"]) KX G ?ad_mask_of ?ld_mask_of ?cd_mask_of ?kd_mask_of (fun _ _ _ _ _ _ us hl => match us, hl with | [_], _ => rfl)), (LL.dn_mk (x := "first_in") (st := LL.scfirstin_st) (ps := ["mask"]) KX G ?ad_first_in ?ld_first_in ?cd_first_in ?kd_first_in (fun _ _ _ _ _ _ us hl => match us, hl with | [_], _ => rfl)), (LL.dn_mk (x := "runs_in") (st := LL.scrunsin_st) (ps := ["mask"]) KX G ?ad_runs_in ?ld_runs_in ?cd_runs_in ?kd_runs_in (fun _ _ _ _ _ _ us hl => match us, hl with | [_], _ => rfl)), (LL.dn_mk (x := "is_whole") (st := LL.sciswhole_st) (ps := ["thing"]) KX G ?ad_is_whole ?ld_is_whole ?cd_is_whole ?kd_is_whole (fun _ _ _ _ _ _ us hl => match us, hl with | [_], _ => rfl)), (LL.dn_mk (x := "is_within") (st := LL.sciswithin_st) (ps := ["thing", "low", "high"]) KX G ?ad_is_within ?ld_is_within ?cd_is_within ?kd_is_within (fun _ _ _ _ _ _ us hl => match us, hl with | [_, _, _], _ => rfl)), (LL.dn_mk (x := "is_span") (st := LL.scisspan_st) (ps := ["begin", "end", "most"]) KX G ?ad_is_span ?ld_is_span ?cd_is_span ?kd_is_span (fun _ _ _ _ _ _ us hl => match us, hl with | [_, _, _], _ => rfl)), (LL.dn_mk (x := "is_stretch") (st := LL.scisstretch_st) (ps := ["thing"]) KX G ?ad_is_stretch ?ld_is_stretch ?cd_is_stretch ?kd_is_stretch (fun _ _ _ _ _ _ us hl => match us, hl with | [_], _ => rfl)), (LL.dn_mk (x := "is_runs") (st := LL.scisruns_st) (ps := ["thing"]) KX G ?ad_is_runs ?ld_is_runs ?cd_is_runs ?kd_is_runs (fun _ _ _ _ _ _ us hl => match us, hl with | [_], _ => rfl)), (LL.dn_mk (x := "mask_of_tidy") (st := LL.scmaskoftidy_st) (ps := ["runs"]) KX G ?ad_mask_of_tidy ?ld_mask_of_tidy ?cd_mask_of_tidy ?kd_mask_of_tidy (fun _ _ _ _ _ _ us hl => match us, hl with | [_], _ => rfl)), (LL.dn_mk (x := "joined_runs") (st := LL.scjoinedruns_st) (ps := ["one", "other"]) KX G ?ad_joined_runs ?ld_joined_runs ?cd_joined_runs ?kd_joined_runs (fun _ _ _ _ _ _ us hl => match us, hl with | [_, _], _ => rfl)), (LL.dn_mk (x := "common_runs") (st := LL.sccommonruns_st) (ps := ["one", "other"]) KX G ?ad_common_runs ?ld_common_runs ?cd_common_runs ?kd_common_runs (fun _ _ _ _ _ _ us hl => match us, hl with | [_, _], _ => rfl)), (LL.dn_mk (x := "less_runs") (st := LL.sclessruns_st) (ps := ["one", "other"]) KX G ?ad_less_runs ?ld_less_runs ?cd_less_runs ?kd_less_runs (fun _ _ _ _ _ _ us hl => match us, hl with | [_, _], _ => rfl)), (LL.dn_mk (x := "_law_cell_at") (st := LL.scLcellat_st) (ps := ["_law_script", "_law_k"]) KX G ?ad_law_cell_at ?ld_law_cell_at ?cd_law_cell_at ?kd_law_cell_at (fun _ _ _ _ _ _ us hl => match us, hl with | [_, _], _ => rfl)), (LL.dn_mk (x := "_law_box") (st := LL.scLbox_st) (ps := ["_law_cell"]) KX G ?ad_law_box ?ld_law_box ?cd_law_box ?kd_law_box (fun _ _ _ _ _ _ us hl => match us, hl with | [_], _ => rfl)), (LL.dn_mk (x := "_law_take") (st := LL.scLtake_st) (ps := ["_law_box_here", "_law_many"]) KX G ?ad_law_take ?ld_law_take ?cd_law_take ?kd_law_take (fun _ _ _ _ _ _ us hl => match us, hl with | [_, _], _ => rfl)), (LL.dn_mk (x := "_law_stretches") (st := LL.scLstretches_st) (ps := ["_law_box_here", "_law_most"]) KX G ?ad_law_stretches ?ld_law_stretches ?cd_law_stretches ?kd_law_stretches (fun _ _ _ _ _ _ us hl => match us, hl with | [_, _], _ => rfl)), (LL.dn_mk (x := "_law_rising") (st := LL.scLrising_st) (ps := ["_law_marks_here"]) KX G ?ad_law_rising ?ld_law_rising ?cd_law_rising ?kd_law_rising (fun _ _ _ _ _ _ us hl => match us, hl with | [_], _ => rfl)), (LL.dn_mk (x := "_law_marks") (st := LL.scLmarks_st) (ps := ["_law_stretches_here"]) KX G ?ad_law_marks ?ld_law_marks ?cd_law_marks ?kd_law_marks (fun _ _ _ _ _ _ us hl => match us, hl with | [_], _ => rfl)), (LL.dn_mk (x := "_law_right") (st := LL.scLright_st) (ps := ["_law_one", "_law_other"]) KX G ?ad_law_right ?ld_law_right ?cd_law_right ?kd_law_right (fun _ _ _ _ _ _ us hl => match us, hl with | [_, _], _ => rfl)), (LL.dn_mk (x := "law") (st := LL.sclaw_st) (ps := ["_law_script"]) KX G ?ad_law ?ld_law ?cd_law ?kd_law (fun _ _ _ _ _ _ us hl => match us, hl with | [_], _ => rfl))⟩ (LL.tx_mk (PySem.W.mg_none_of KX G ?z_range) (PySem.W.mg_none_of KX G ?z_repr) (PySem.W.mg_none_of KX G ?z_isinstance) (PySem.W.mg_none_of KX G ?z_int) (PySem.W.mg_none_of KX G ?z_tuple) (PySem.W.mg_none_of KX G ?z_len) (PySem.W.mg_none_of KX G ?z_max) (PySem.W.mg_none_of KX G ?z_bool) (PySem.W.mg_none_of KX G ?z_list) (PySem.W.mg_none_of KX G ?z_all) (PySem.W.mg_none_of KX G ?z_min) (PySem.W.mg_of KX G ?g_MOST_END)) ?zc0 (fun s u => .of_eq rfl) ?zt0_1 ?zt0_2 ?zt0_3
    (case ad_law => k_is)
    (case ld_law => k_is)
    (case cd_law => k_is)
    (case kd_law => k_is)
    (case ad_law_right => k_is)
    (case ld_law_right => k_is)
    (case cd_law_right => k_is)
    (case kd_law_right => k_is)
    (case ad_law_marks => k_is)
    (case ld_law_marks => k_is)
    (case cd_law_marks => k_is)
    (case kd_law_marks => k_is)
    (case ad_law_rising => k_is)
    (case ld_law_rising => k_is)
    (case cd_law_rising => k_is)
    (case kd_law_rising => k_is)
    (case ad_law_stretches => k_is)
    (case ld_law_stretches => k_is)
    (case cd_law_stretches => k_is)
    (case kd_law_stretches => k_is)
    (case ad_law_take => k_is)
    (case ld_law_take => k_is)
    (case cd_law_take => k_is)
    (case kd_law_take => k_is)
    (case ad_law_box => k_is)
    (case ld_law_box => k_is)
    (case cd_law_box => k_is)
    (case kd_law_box => k_is)
    (case ad_law_cell_at => k_is)
    (case ld_law_cell_at => k_is)
    (case cd_law_cell_at => k_is)
    (case kd_law_cell_at => k_is)
    (case ad_less_runs => k_is)
    (case ld_less_runs => k_is)
    (case cd_less_runs => k_is)
    (case kd_less_runs => k_is)
    (case ad_common_runs => k_is)
    (case ld_common_runs => k_is)
    (case cd_common_runs => k_is)
    (case kd_common_runs => k_is)
    (case ad_joined_runs => k_is)
    (case ld_joined_runs => k_is)
    (case cd_joined_runs => k_is)
    (case kd_joined_runs => k_is)
    (case ad_mask_of_tidy => k_is)
    (case ld_mask_of_tidy => k_is)
    (case cd_mask_of_tidy => k_is)
    (case kd_mask_of_tidy => k_is)
    (case ad_is_runs => k_is)
    (case ld_is_runs => k_is)
    (case cd_is_runs => k_is)
    (case kd_is_runs => k_is)
    (case ad_is_stretch => k_is)
    (case ld_is_stretch => k_is)
    (case cd_is_stretch => k_is)
    (case kd_is_stretch => k_is)
    (case ad_is_span => k_is)
    (case ld_is_span => k_is)
    (case cd_is_span => k_is)
    (case kd_is_span => k_is)
    (case ad_is_within => k_is)
    (case ld_is_within => k_is)
    (case cd_is_within => k_is)
    (case kd_is_within => k_is)
    (case ad_is_whole => k_is)
    (case ld_is_whole => k_is)
    (case cd_is_whole => k_is)
    (case kd_is_whole => k_is)
    (case ad_runs_in => k_is)
    (case ld_runs_in => k_is)
    (case cd_runs_in => k_is)
    (case kd_runs_in => k_is)
    (case ad_first_in => k_is)
    (case ld_first_in => k_is)
    (case cd_first_in => k_is)
    (case kd_first_in => k_is)
    (case ad_mask_of => k_is)
    (case ld_mask_of => k_is)
    (case cd_mask_of => k_is)
    (case kd_mask_of => k_is)
    (case ad_mask_between => k_is)
    (case ld_mask_between => k_is)
    (case cd_mask_between => k_is)
    (case kd_mask_between => k_is)
    (case z_range => k_is)
    (case z_repr => k_is)
    (case z_isinstance => k_is)
    (case z_int => k_is)
    (case z_tuple => k_is)
    (case z_len => k_is)
    (case z_max => k_is)
    (case z_bool => k_is)
    (case z_list => k_is)
    (case z_all => k_is)
    (case z_min => k_is)
    (case g_MOST_END => k_is)
    (case zc0 => rfl)
    (case zt0_1 => (refine' LL.own_mk (fun f hf => own "is_runs" f (by decide +kernel) hf) (PySem.W.mg_of KX G ?mm) ?y0 ?y1 ?y2 ?y3 ?y4; (case mm => k_is); (case y0 => k_is); (case y1 => rfl); (case y2 => rfl); (case y3 => k_is); (case y4 => rfl)))
    (case zt0_2 => first | rfl | kernel_rfl)
    (case zt0_3 => (refine' LL.code_mk KX ?lk ?x2 ?x3 ?x4 ?x5 ?x6 ?x7 ?x8; (case lk => k_is); (case x2 => rfl); (case x3 => rfl); (case x4 => rfl); (case x5 => rfl); (case x6 => rfl); (case x7 => rfl); (case x8 => decide)))
