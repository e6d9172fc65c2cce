import PyProof.Rows.All
import Wide.All
import OpenK.AllK
import Wide.FinOn
import HandS.ForMost
import HandS.AnyAll
import HandS.EndTab
import HandS.EndOwn
import HandS.IsInst
import HandS.Style
import HandS.Wide
import HandS.Flow
import HandS.NoneIn
import HandS.WideBits
import HandS.GenOver
import HandS.Conv
import HandS.RevTup
import HandS.Rev
import KE.KRevSl
import PyProof.ReprRoads
import PySem.Challenge.RW_leastlore_k14_tidy_rows_made
set_option Elab.async false
set_option linter.all false
set_option maxRecDepth 100000
set_option maxHeartbeats 4000000
namespace LL
open PySem PySem.Spec PyProof.Rows L2
/-! ### defs that are called where no repr runs -/
/-- as FnOk, but only where it is known that no repr is under way -/
structure FnG (P : Program) (w : World) (K : PySem.W.Frag) (mg : Str → Option Value) (base : Heap) (k : Nat) (f : Addr) (fd : FuncData) (ps : List Str) (sp : Sp) : Prop where
  len : ∀ vs H Q E, sp vs H Q E → vs.length = ps.length
  run : ∀ (A : Around) (outer : List Env) (s : Shared) (H : Hp) (args : Args) (us : List Value) (vs : List V) (Q : VK) (E : XK),
    A.guards = some [] → Room k A → Env0 P w K mg base A outer s H → BindsTo s fd args (ps.zip us) → Vals vs us → sp vs H Q E →
    codeAny (model P w) A (.call (.ref f) args) (CR CX0 outer P w H s Q E) s
section
variable {P : Program} {w : World} {K : PySem.W.Frag} {mg : Str → Option Value} {base : Heap}
theorem fnG_of {x : Str} {st : Stmt} {f : Addr} {fd : FuncData} {N ps : List Str} {k : Nat} {sp : Sp} (F : Fun K x x st f fd) (S : FnScope N ps (defScope st))
    (len : ∀ vs H Q E, sp vs H Q E → vs.length = ps.length)
    (body : ∀ (cdv : Value) (A : Around) (outer : List Env) (s : Shared) (H : Hp) (vs : List V) (Q : VK) (E : XK), A.guards = some [] →
      Room k (A.deeper (envOfC x (defScope st) s.heap.objs.size f cdv)) → sp vs H Q E →
      ∃ t, PSs (cxOf CX0 P w K mg base N x (defScope st) f cdv A outer s H E).nox (defBody st) t ∧ t { nx := fun _ H' => Q .non H', rt := Q } (start N vs) H) :
    FnG P w K mg base (k + 1) f fd ps sp := by
  refine ⟨len, fun A outer s H args us vs Q E guard room e0 bind rel want => ?_⟩
  obtain ⟨c1, d1, kv, doc, pm, an, cdv, c2, sl, rfl, look, isCode⟩ := F.ex
  have long := len _ _ _ _ want
  have inK : K.In s.heap := e0.mod.kin.keeps fun b o e => (e0.bs b o e).1
  have free : s.heap.NoLimit := e0.mod.nolimit.keeps fun b o e => (e0.bs b o e).1
  have pars : ∀ y ∈ ps.zip us, (defScope st).names.lookup y.1 = some .local ∨
      ((defScope st).names.lookup y.1 = some .cell ∧ ((cellsFrom (s.heap.objs.size + 1) (defScope st).names []).lookup y.1).isSome = true) := by
    rintro ⟨n, v⟩ hy
    rcases S.par n (List.of_mem_zip hy).1 with q | q
    · exact Or.inl q
    · exact Or.inr ⟨q, PySem.W.cellsFrom_some _ _ _ (Or.inl q)⟩
  refine codeAny_call_function room.depth (inK _ _ look) rfl S.co S.gen rfl (PySem.W.codeRec_of inK isCode) (bind _ _ _ _ ?_)
  refine wpAny_newFunctionEnv_cells S.kind pars fun env isEnv s1 made => ?_
  subst isEnv
  refine ⟨free.keeps made.toInCall.keep, codeAny_func ?_⟩
  obtain ⟨t, ht, hq⟩ := body cdv A outer s H vs Q E guard (room.deeper _) want
  have I := inv_start (CX := CX0) (E := E) S room.hd e0 long rel made
  have ht2 := ht.nox
  refine wpAny_mono (ht2.run [] s1 (start N vs) H _ I hq) (fun fl s' end_ => ?_) fun e s' z => z
  cases fl with
  | ret u =>
    obtain ⟨v, σ', H', J, rv, q⟩ := end_
    exact ⟨v, H', J.os, J.bare, J.base, J.hok, rv, q⟩
  | next =>
    obtain ⟨σ', H', J, q⟩ := end_
    exact ⟨.non, H', J.os, J.bare, J.base, J.hok, rfl, q⟩
  | brk =>
    obtain ⟨_, _, _, q⟩ := end_
    exact False.elim q
  | cont =>
    obtain ⟨_, _, _, q⟩ := end_
    exact False.elim q
end
/-- f(e, ..) for such a def -/
theorem pe_callG {X : Cx} {k : Nat} {f : Addr} {fd : FuncData} {ps : List Str} {sp : Sp} {x : Str} {p pos : Pos} {e : Expr} {es : List Expr} {t : TA}
    (F : FnG X.prog X.w X.K X.mg X.base k f fd ps sp) (guard : X.A.guards = some []) (room : Room k X.A) (hg : Gl X x) (hm : X.mg x = some (.ref f))
    (kp : PySem.W.keepIn X.K (.ref f) = true) (hb : Binds X.K fd ps []) (ha : PA X (e :: es) t) (hd : (x == ("__debug__" : Str)) = false := by decide)
    (he : starEach (e :: es) X.env = (false, eval e X.env) :: starEach es X.env := by rfl) (hp : (backTo pos (starEach es X.env)).any (·.1) = false := by rfl) :
    PE X (.Call (.Name x p) (e :: es) [] pos) (tCall sp [] E0 t) := by
  refine ⟨fun pins s σ H Q I h => wpAny_Call_Name_kw (ld_glob I hg hm ?_ hd)⟩
  refine PySem.W.callWith_K (h₀ := X.base) I.ok.mod.kin kp (thn (ha.run pos pins s σ H _ I h) fun us s1 ⟨vs, H1, J, rel, want⟩ => ⟨J.kIn, ?_⟩) he hp
  have want : sp (vs ++ []) H1 Q E0 := want
  rw [List.append_nil] at want
  have long : (us ++ []).length = ps.length := by
    rw [List.append_nil, ← rel.length]
    exact F.len _ _ _ _ want
  have bind := hb s1 us J.kIn long
  rw [List.append_nil] at bind
  refine wpAny_call (codeAny_mono (F.run X.A X.stack s1 H1 ⟨us, []⟩ us vs Q E0 guard room J.env0 bind rel want) fun r s' got => ?_)
  cases r with
  | error _ => exact False.elim got
  | ok fl =>
    cases fl with
    | ret u => exact J.after got
    | next => exact False.elim got
    | brk => exact False.elim got
    | cont => exact False.elim got
/-- repr of data -/
theorem call_reprD {X : Cx} (guard : X.A.guards = some []) {k : Nat} (room : Room k X.A) : CallR X (.builtin "repr") (fun xs H Q => ∃ v d, xs = [v] ∧ Dp X.K H v d ∧ isDisplay d = true ∧
    d.showable = true ∧ d.hasDict = false ∧ d.depth ≤ 60 ∧ d.shown.length ≤ sizeLine ∧ Q (.str d.shown) H) := by
  intro pins s σ H xs us Q I r ⟨v, d, e, dp, disp, sh, nd, dep, len, q⟩
  subst e
  obtain ⟨u, rfl, r1⟩ := vals1 r
  obtain ⟨as, rd⟩ := Dp.reads I d v u dp r1
  obtain ⟨a, rfl⟩ := isRef_of_reads rd disp
  exact repr_of_reads' rd sh (PyData.noDict_hsm nd) guard (by have := room.un; omega) (fun _ _ e => e)
    (fun h' u tk keep => ⟨.str _, H, I.kept keep, ⟨_, rfl⟩, q⟩) len
end LL
namespace LL
open PySem PySem.Spec PyProof.Rows L2
/-- what is tracked at a law's entry: the tables, and the script where it is no written thing -/
def entryH (T : List Addr) (K : PySem.W.Frag) (a : Addr) (scr : Obj) (ns : List Int) : Hp := fun b =>
  if b ∈ T then some (.tbl #[]) else if b = a ∧ K.lookup a = none then some (.frz scr (.lst (ns.map V.int))) else none
theorem entry_tab {T : List Addr} {K : PySem.W.Frag} {a b : Addr} {scr : Obj} {ns : List Int} (h : b ∈ T) : entryH T K a scr ns b = some (.tbl #[]) := if_pos h
theorem entry_cases {T : List Addr} {K : PySem.W.Frag} {a b : Addr} {scr : Obj} {ns : List Int} {u : HO} (h : entryH T K a scr ns b = some u) :
    (b ∈ T ∧ u = .tbl #[]) ∨ (b ∉ T ∧ b = a ∧ K.lookup a = none ∧ u = .frz scr (.lst (ns.map V.int))) := by
  unfold entryH at h
  by_cases m : b ∈ T
  · rw [if_pos m] at h
    exact Or.inl ⟨m, (Option.some.inj h).symm⟩
  · rw [if_neg m] at h
    by_cases q : b = a ∧ K.lookup a = none
    · rw [if_pos q] at h
      exact Or.inr ⟨m, q.1, q.2, (Option.some.inj h).symm⟩
    · rw [if_neg q] at h
      cases h
abbrev noTable : Obj := { cls := .none, data := .fields #[] }
theorem law_callG {P : Program} {w : World} {K : PySem.W.Frag} {mg mb : Str → Option Value} {k : Nat} {fa a : Addr} {cs : List (Addr × Addr)} {fd : FuncData} {x : Str} {sp : Sp} {s : Shared} {vals : List Value} {ns : List Int}
    (inK : K.In s.heap) (glob : s.heap.Ns mainGlobals mg) (blt : s.heap.Ns builtinsNs mb) (boot : ∀ y : Str, y ≠ "__name__" → mb y = bootBuiltins y) (free : s.heap.NoLimit) (noGen : s.gens = #[])
    (tabs : ∀ p ∈ cs, s.heap.get? p.2 = some noTable) (outK : ∀ p ∈ cs, K.lookup p.2 = none) (codes : ∀ p ∈ cs, PySem.W.CodeHd s.heap p.1 p.2)
    (main : ∃ (bm : Addr) (ob : Obj), mg "__builtins__" = some (.ref bm) ∧ bm ≠ builtinsNs ∧ s.heap.get? bm = some ob ∧ ob.cls = .type "module" ∧ ob.dict = some builtinsNs ∧ ob.data = .plain)
    (scr : s.heap.get? a = some { cls := .type "list", data := .seq vals.toArray }) (are : IntsAre vals ns) (few : ns.length ≤ sizeLine) (room : Room k callerA)
    (F : ∀ base : Heap, K.In base → base.Ns mainGlobals mg → (∀ p ∈ cs, GxR.TabB base mg p.1 p.2) → FnG P w K mg base k fa fd [x] sp)
    (bind : ∀ (s : Shared) (u : Value), BindsTo s fd ⟨[u], []⟩ [(x, u)])
    (ask : ∀ H : Hp, (∀ p ∈ cs, H p.2 = some (.tbl #[])) → SqL K H a (ns.map V.int) → sp [.ref a] H (fun v _ => v = .bl true) fun _ _ _ => False) :
    codeAny (model P w) callerA (.call (.ref fa) ⟨[.ref a], []⟩) (fun r s' => r = .ok (.ret (.bool true)) ∧ OldK s.heap s'.heap ∧ s'.os = s.os ∧ AllBare s'.gens) s := by
  let T : List Addr := cs.map (·.2)
  have tabAt : ∀ b, b ∈ T → s.heap.get? b = some noTable := fun b hb => by
    obtain ⟨p, hp, rfl⟩ := List.mem_map.mp hb
    exact tabs p hp
  have mem : ∀ p ∈ cs, p.2 ∈ T := fun p hp => List.mem_map_of_mem hp
  let H : Hp := entryH T K a { cls := .type "list", data := .seq vals.toArray } ns
  have aT : a ∉ T := fun z => by
    have q := tabAt a z
    rw [scr] at q
    have z' := congrArg Obj.data (Option.some.inj q)
    cases z'
  have rel := vals_ints are
  have seqA : SqL K H a (ns.map V.int) := by
    cases lk : K.lookup a with
    | some o =>
      have e := inK a o lk
      rw [scr] at e
      cases e
      exact .inr ⟨_, vals.toArray, _, lk, rfl, rfl, rfl, by rw [List.size_toArray, are.length]; exact few, by simpa using rel⟩
    | none =>
      refine .inl (.inr ⟨{ cls := .type "list", data := .seq vals.toArray }, ?_⟩)
      show entryH T K a _ ns a = _
      unfold entryH
      rw [if_neg aT, if_pos ⟨rfl, lk⟩]
  have ok : HOk P w H s.heap := fun b u e => by
    rcases entry_cases e with ⟨m, rfl⟩ | ⟨_, rfl, _, rfl⟩
    · exact tabAt b m
    · exact ⟨scr, by rw [List.length_map]; exact few, vals, _, rel, scr⟩
  -- what is of another kind isn't tracked
  have clear : ∀ {b : Addr} {o : Obj}, s.heap.get? b = some o → (∀ vs n, o.data ≠ .seq vs n) → o.data ≠ .fields #[] → H b = none := fun {b o} e n1 n2 => by
    cases q : H b with
    | none => rfl
    | some u =>
      rcases entry_cases q with ⟨m, _⟩ | ⟨_, rfl, _, _⟩
      · rw [tabAt b m] at e
        cases e
        exact absurd rfl n2
      · rw [scr] at e
        cases e
        exact absurd rfl (n1 _ _)
  have keepNs : ∀ {b : Addr} {m : Str → Option Value}, s.heap.Ns b m → (hidT s.heap H).Ns b m := fun {b m} ⟨o, es, ep, e, d, r⟩ => by
    refine ⟨o, es, ep, hidT_get e (clear e (fun vs n z => ?_) fun z => ?_), d, r⟩
    · rw [d] at z
      cases z
    · rw [d] at z
      cases z
  have inB : K.In (hidT s.heap H) := fun b o e => hidT_get (inK b o e) (by
    cases q : H b with
    | none => rfl
    | some u =>
      rcases entry_cases q with ⟨m, _⟩ | ⟨_, rfl, l, _⟩
      · obtain ⟨p, hp, rfl⟩ := List.mem_map.mp m
        rw [outK p hp] at e
        cases e
      · rw [l] at e
        cases e)
  have tabB : ∀ p ∈ cs, GxR.TabB (hidT s.heap H) mg p.1 p.2 := fun p hp => by
    have tp := tabs p hp
    refine ⟨?_, ?_, fun z => ?_⟩
    · obtain ⟨o, us, file, tf, fl, tg, inF, tx, tt, g1, g2, g3, g4, g5⟩ := codes p hp
      refine ⟨o, us, file, tf, fl, tg, inF, tx, tt, hidT_get g1 (clear g1 (fun vs n z => ?_) fun z => ?_), g2, g3, g4, g5⟩
      · rw [g3] at z
        cases z
      · rw [g3] at z
        cases z
        simp at g4
    · obtain ⟨bm, ob, b1, b2, b3, b4, b5, b6⟩ := main
      have nG : bm ≠ mainGlobals := fun q => by
        obtain ⟨o, es, ep, e, d, _⟩ := glob
        rw [q, e] at b3
        cases b3
        rw [d] at b6
        cases b6
      have nP : bm ≠ p.2 := fun q => by
        rw [q, tp] at b3
        cases b3
        cases b6
      refine ⟨bm, ob, b1, b2, nG, nP, hidT_get b3 (clear b3 (fun vs n z => ?_) fun z => ?_), b4, b5, b6⟩
      · rw [b6] at z
        cases z
      · rw [b6] at z
        cases z
    · obtain ⟨o, es, ep, e, d, _⟩ := glob
      rw [z, tp] at e
      cases e
      cases d
  have modB : L2.Mod K mg (hidT s.heap H) := ⟨inB, keepNs glob, ⟨mb, keepNs blt, boot⟩, by
    obtain ⟨mc, l1, l2⟩ := free
    exact ⟨mc, keepNs l1, l2⟩⟩
  have e0 : Env0 P w K mg (hidT s.heap H) callerA [] s H :=
    ⟨rfl, modB, fun b o e => of_hidT e, Nat.le_of_eq (hidT_size _ _), trivial, (fun b hb => absurd (show b ∈ ([] : List Addr) from hb) (by simp)), ok, .of_eq noGen⟩
  have run := (F _ inB (keepNs glob) tabB).run callerA [] s H ⟨[.ref a], []⟩ [.ref a] [.ref a] _ _ rfl room e0 (bind s (.ref a)) (.cons rfl .nil)
    (ask H (fun p hp => entry_tab (mem p hp)) seqA)
  refine codeAny_mono run fun r s' got => ?_
  cases r with
  | error _ => exact False.elim got
  | ok fl =>
    cases fl with
    | next => exact False.elim got
    | brk => exact False.elim got
    | cont => exact False.elim got
    | ret u =>
      obtain ⟨v, H', os, bare, un, ok', rv, q⟩ := got
      have qv : v = .bl true := q
      subst qv
      obtain rfl : u = Value.bool true := rv
      have grown : ∀ b, b ∈ T → ∃ more : Array Value, s'.heap.get? b = some { cls := .none, data := .fields more } := fun b hb => by
        obtain ⟨more, z⟩ := un.tbls b #[] (entry_tab hb)
        exact ⟨_, ok' b _ z⟩
      have stays : ∀ b o, b ∉ T → s.heap.get? b = some o → s'.heap.get? b = some o := fun b o n e => by
        cases q : H b with
        | none => exact un.keep b o e q (fun z => absurd (show b ∈ ([] : List Addr) from z) (by simp)) (by simp)
        | some u =>
          rcases entry_cases q with ⟨m, _⟩ | ⟨_, rfl, _, rfl⟩
          · exact absurd m n
          · obtain ⟨e2, _⟩ := ok' b _ (un.frzs b _ _ q)
            rw [scr] at e
            cases e
            exact e2
      refine ⟨rfl, ⟨fun b o e => ?_, fun b o e => ?_⟩, os, bare⟩
      · by_cases m : b ∈ T
        · obtain ⟨more, z⟩ := grown b m
          obtain ⟨p, hp, rfl⟩ := List.mem_map.mp m
          rw [tabs p hp] at e
          cases e
          exact .inr (.inl ⟨((codes p hp).tab (tabs p hp)).isCodeTable, rfl, #[], more, rfl, by rw [Array.empty_append]; exact z⟩)
        · exact .inl (stays b o m e)
      · by_cases m : b ∈ T
        · obtain ⟨more, z⟩ := grown b m
          exact ⟨_, z⟩
        · exact ⟨o, stays b o m e⟩
/-- what is to be known of a law's promise at its entry -/
def LawG (l : PySem.W.OpenLaw) (w : World) (K : PySem.W.Frag) (k n : Nat) (x : Str) (mg : Str → Option Value) (fa : Addr) (h : Heap) : Prop :=
  ∃ (fd : FuncData) (cs : List (Addr × Addr)) (sp : Sp), (∀ p ∈ cs, h.get? p.2 = some noTable) ∧ (∀ p ∈ cs, K.lookup p.2 = none) ∧ (∀ p ∈ cs, PySem.W.CodeHd h p.1 p.2) ∧
    (∀ (s : Shared) (u : Value), BindsTo s fd ⟨[u], []⟩ [(x, u)]) ∧
    (∀ (H : Hp) (a : Addr) (ns : List Int), ns.length ≤ n → (∀ p ∈ cs, H p.2 = some (.tbl #[])) → SqL K H a (ns.map V.int) → sp [.ref a] H (fun v _ => v = .bl true) fun _ _ _ => False) ∧
    ∀ base : Heap, K.In base → base.Ns mainGlobals mg → (∀ p ∈ cs, GxR.TabB base mg p.1 p.2) → FnG l.prog w K mg base k fa fd [x] sp
theorem walk_G {l : PySem.W.OpenLaw} {most lvl : Nat} {view : Program} {loose : List Str} {XP : (Str → Option Value) → Heap → Prop} {YP : World → Heap → Prop}
    {d : DefRec} {K : Params → PySem.W.Frag} {arg : Str}
    (h1 : l.most = some most) (h2 : most ≤ sizeLine) (h3 : d.params.defaults = []) (room : Room lvl callerA) (kIn : ∀ (w : World) (h : Heap), YP w h → (K w.params).In h)
    (F : ∀ (w : World) (mg : Str → Option Value) (fa : Addr) (h : Heap), YP w h → (K w.params).In h → h.Ns mainGlobals mg → mg d.name = some (.ref fa) →
      (∀ nm f, ((recsOf view).any fun r => r.name == nm) = true → mg nm = some (.ref f) → LamX.OwnTab (K w.params) f h) → LawG l w (K w.params) lvl most arg mg fa h) :
    PySem.W.WalkO view loose XP YP l.row.toRowW d [] (fun f vs => PySem.call f vs) := by
  refine Att.attach_callB h1 h3 fun w sa sb mg mb fa oL pm cd doc a vals nums gr yp hob hdata hrec hfa hscr hint hlen hbit hgen => ?_
  have inK := kIn w _ yp
  have tabs : ∀ nm f, ((recsOf view).any fun r => r.name == nm) = true → mg nm = some (.ref f) → LamX.OwnTab (K w.params) f sb.heap := fun nm f there hf cc TT ob ff ev di vv ss g1 g2 g3 g4 g5 => by
    obtain ⟨r, mem, same⟩ := List.any_eq_true.mp there
    have nmr : r.name = nm := beq_iff_eq.mp same
    obtain ⟨fb, ob', ff', cc', TT', i1, i2, i3, i4, _, i6⟩ := gr.T.tab r mem
    rw [nmr, hf] at i1
    cases i1
    rw [inK _ _ g1] at i2
    cases i2
    rw [g2] at i3
    cases i3
    rw [g3] at i4
    cases i4
    obtain ⟨⟨oc, vc, j1, _, j3, j4⟩, empty⟩ := i6
    rw [inK _ _ g4] at j1
    cases j1
    cases j3
    rw [g5] at j4
    cases j4
    exact empty
  obtain ⟨fd, cs, sp, t1, t2, t3, bind, ask, good⟩ := F w mg fa _ yp inK gr.T.g hfa tabs
  exact law_callG inK gr.T.g gr.T.b gr.T.builtins gr.T.nolimit hgen t1 t2 t3 gr.T.bmain hscr hint (Nat.le_trans hlen h2) room good bind
    (fun H q1 q2 => ask H a nums hlen q1 q2)
end LL
namespace LL
open PySem PySem.Spec PyProof.Rows L2

/-- the element over one sign; the name y is captured and holds the text b -/
def EltC (prog : Program) (w : World) (scope : Scope) (x y : Str) (elt : Expr) (b : Str) (pb : Nat → Bool) : Prop :=
  ∀ (ce : Env) (B : Around) (Ex : Value → Shared → Prop) (d : Nat) (u v : Tok) (r : Shared) (mm : Str → Option Value) (q : Addr),
    ce.scope = scope → ce.cells.lookup y = some q → r.heap.IsCell q (some (.str b v)) → r.heap.Ns ce.locals mm →
    mm x = some (.str ⟨#[d]⟩ u) → wpAny (model prog w) B (eval elt ce) (fun z r' => z = .bool (pb d) ∧ Keeps r r') Ex r

/-- sign in signs -/
theorem elt_in {prog : Program} {w : World} {scope : Scope} {x y b : Str} {p1 p2 p3 : Pos} (hk : scope.kind = .function)
    (hl : scope.names.lookup x = some .local) (hy : scope.names.lookup y = some .free)
    (d1 : (x == ("__debug__" : Str)) = false := by decide) (d2 : (y == ("__debug__" : Str)) = false := by decide)
    (d3 : (y == ("__classdict__" : Str)) = false := by decide) :
    EltC prog w scope x y (.Compare (.Name x p1) [.In] [.Name y p2] p3) b
      (fun c => !(Builtin.Str.occurrences b ⟨#[c]⟩ 0 b.length 1).isEmpty) := by
  intro ce B Ex d u v r mm q hs hc hq hn hm
  refine wpAny_Compare1 ?_
  refine wpAny_Name (wpAny_loadName_local (by rw [hs]; exact hk)
    (show ce.scope.names.lookup x = some .local by rw [hs]; exact hl) hn hm ?_) d1
  refine wpAny_Name (wpAny_loadName_free (by rw [hs]; exact hk)
    (show ce.scope.names.lookup y = some .free by rw [hs]; exact hy) hc hq ?_ d3) d2
  exact in_str ⟨rfl, GxR.keeps_tok _ _⟩

section
variable {X : Cx} {pins : List (Addr × Obj)} {σ : L2.St} {H : Hp} {s : Shared}

theorem gen_cap {c P : Addr} {elt iter : Expr} {x y : Str} {px gpos : Pos} {scope : Scope} {pb : Str → Nat → Bool}
    {te : TE} {k j : Nat} {Q' : Value → Shared → Prop} {R : Str → Str → Hp → Prop}
    (room : Room k X.A) (tabB : GxR.TabB X.base X.mg c P) (code_ : X.env.code = .ref c) (S : GxR.GenS X.env scope x)
    (it_ : PE X iter te) (el_ : ∀ b, EltC X.prog X.w scope x y elt b (pb b))
    (hj : X.N[j]? = some y) (hcel : X.env.scope.names.lookup y = some .cell)
    (hclo : ∀ cells q, cells.lookup y = some q → (cloFrom cells scope.names []).lookup y = some q)
    (fold_ : ∀ v, genFold iter X.env v = pure v) (I : Inv X pins σ H s)
    (h : te σ H fun v H1 => ∃ a b : Str, v = .str a ∧ σ[j]? = some (some (.str b)) ∧ GxR.TabG H1 P ∧ R a b H1)
    (fin : ∀ a b H1 g s5, R a b H1 → GxR.Ready X pins σ H1 P a (pb b) g s5 → Q' (.ref g) s5) :
    wpAny (model X.prog X.w) X.A (eval (.GeneratorExp elt [⟨.Name x px, iter, [], 0⟩] scope gpos) X.env) Q' X.xe s := by
  refine wpAny_GeneratorExp_walksQ room.hd S.co (closure_ok S.free) S.cell S.dot S.loc S.kind
    (by have := room.dp; omega) ?_ fold_
  refine thn (it_.run pins s σ H _ I h) fun vx r1 ⟨v, H1, J, rel, want⟩ => ?_
  obtain ⟨a, b, rfl, hb, ⟨tb, hTP, htri⟩, want⟩ := want
  obtain ⟨tk0, rfl⟩ := _root_.id rel
  -- the captured cell
  obtain ⟨mloc, _, hlook⟩ := J.loc
  obtain ⟨ub, rub, lub⟩ := hlook j y (.str b) hj hb (Or.inr (Or.inl hcel))
  obtain ⟨tkb, rfl⟩ := (show ∃ t, ub = Value.str b t from rub)
  have capt : ∃ q, X.env.cells.lookup y = some q ∧ r1.heap.IsCell q (some (.str b tkb)) := by
    rcases lub with ⟨hk1, _⟩ | ⟨_, q, hq1, hq2⟩
    · have hk2 : X.env.scope.names.lookup y = some .local := hk1
      rw [hcel] at hk2
      cases hk2
    · exact ⟨q, hq1, hq2⟩
  obtain ⟨q, hq1, oq, hqo, hqd⟩ := capt
  refine wpAny_pyIter_str fun ob Stp Wk hst0 => ?_
  have tabS : r1.heap.get? P = some { cls := .none, data := .fields tb } := J.hok P _ hTP
  have qP : q ≠ P := fun z => by
    rw [z, tabS] at hqo
    cases hqo
    cases hqd
  have ltP : P < r1.heap.objs.size := Heap.lt_size tabS
  have ltq : q < r1.heap.objs.size := Heap.lt_size hqo
  have tabN : (r1.heap.push ob).get? P = some { cls := .none, data := .fields tb } := Heap.get?_push_of_some _ tabS
  have hdN : PySem.W.CodeHd (r1.heap.push ob) c P :=
    tabB.code.keeps fun b' u' e' => Heap.get?_push_of_some _ (J.bk b' u' e')
  have limN : (r1.heap.push ob).NoLimit := J.nolimit.push ob
  refine ⟨limN, ?_⟩
  -- behind the code object, whichever it is
  have onward : ∀ (cv : Value) (h3 : Heap) (n3 : Nat) (tb' : Array Value), Heap.ExtBut P (r1.heap.push ob) h3 →
      (r1.heap.push ob).objs.size ≤ h3.objs.size → h3.get? P = some { cls := .none, data := .fields tb' } →
      (∃ more, tb' = tb ++ more) → TriplesOk tb'.toList →
      wpAny (model X.prog X.w) X.A (builtinsFor X.env.globals X.env.builtins) (fun bi s4 =>
        ∃ Ia fp wr n₀ Pf St₀ pz F, Value.ref r1.heap.objs.size = .ref Ia ∧
          (∀ A2 : Around, A2.handled = none → Walks X.prog X.w A2 Ia fp wr n₀ Pf St₀) ∧ St₀ 0 s4.heap ∧
          (∀ b' ∈ fp, b' < s4.heap.objs.size) ∧ s4.heap.NoLimit ∧ cStatics ∉ wr ∧
          (∀ hr : Heap, (∀ b' o', s4.heap.get? b' = some o' → hr.get? b' = some o') →
            QuietGen X.prog X.w
              (genEnv scope (cloFrom X.env.cells scope.names []) s4.heap.objs.size cv bi X.env)
              x [] elt (List.range s4.heap.objs.size) wr Pf pz F hr) ∧
          (∀ a' h5 n5 gs, gs.bare = true → s4.heap.objs.size < a' → h5.objs.size = a' + 1 →
            (∀ b' o', s4.heap.get? b' = some o' → h5.get? b' = some o') →
            WalksS X.prog X.w X.A.in4 a' (a' :: s4.heap.objs.size :: List.range s4.heap.objs.size)
              (s4.heap.objs.size :: wr) (GenOnlyQ s4.gens.size) (passing pz n₀ 0).length
              (fun i' y' => ∃ i, (passing pz n₀ 0)[i']? = some i ∧ F i y')
              (GenAt X.prog X.w X.A.in4 a' s4.gens.size s4.heap.objs.size
                (List.range s4.heap.objs.size) wr pz n₀ F) →
            GenAt X.prog X.w X.A.in4 a' s4.gens.size s4.heap.objs.size
              (List.range s4.heap.objs.size) wr pz n₀ F 0
              { s4 with gens := s4.gens.push gs, toks := n5, heap := h5 } →
            Q' (.ref a') { s4 with gens := s4.gens.push gs, toks := n5, heap := h5 })) X.xe
        { r1 with heap := h3, toks := n3 } := by
    intro cv h3 n3 tb' ext sz3 tab3 grew tri3
    obtain ⟨bm, mo, f1, f2, f3, f4, f5, f6, f7, f8⟩ := tabB.bm
    have statP : cStatics ≠ P := fun z => by
      obtain ⟨_, hns, _⟩ := J.nolimit
      obtain ⟨_, _, _, ho, hd, _⟩ := hns
      rw [z, tabS] at ho
      cases ho
      cases hd
    have statL : cStatics < r1.heap.objs.size := by
      obtain ⟨_, hns, _⟩ := J.nolimit
      exact hns.lt
    have szN : (r1.heap.push ob).objs.size = r1.heap.objs.size + 1 := Heap.size_push ..
    have old3 : ∀ b' u', b' ≠ P → r1.heap.get? b' = some u' → h3.get? b' = some u' :=
      fun b' u' ne e' => ext b' u' ne (Heap.get?_push_of_some _ e')
    have cell3 : h3.get? q = some oq := old3 q oq qP hqo
    refine wpAny_builtinsFor (m := X.mg)
      (by rw [J.ok.glob]; exact ((J.mod.glob.keeps J.bk).push ob).extBut ext tabB.gP)
      f1 f2 (old3 _ _ f4 (J.bk _ _ f5)) f6 f7 f8 ?_
    refine ⟨r1.heap.objs.size, [r1.heap.objs.size], [r1.heap.objs.size], a.cps.size, SignAt a, Stp, (fun _ => true),
      (fun i z => ∃ cc, a.cps[i]? = some cc ∧ z = .bool (pb b cc)), rfl, Wk, ?_, ?_, limN.extBut ext statP, ?_, ?_, ?_⟩
    · refine (Wk X.A room.hd).frame _ _ _ hst0 fun b' mem' u' e' => ext b' u' (fun z => ?_) e'
      rcases List.mem_cons.mp mem' with z2 | z2
      · exact Nat.ne_of_lt ltP (z.symm.trans z2)
      · cases z2
    · intro b' mem'
      rcases List.mem_cons.mp mem' with z | z
      · rw [z]
        exact Nat.lt_of_lt_of_le (by rw [szN]; exact Nat.lt_succ_self _) sz3
      · cases z
    · intro mem'
      rcases List.mem_cons.mp mem' with z | z
      · exact Nat.ne_of_lt statL z
      · cases z
    · intro hr hhr
      refine ⟨fun A2 E2 i v' s2 m2 _ _ _ _ _ => ?_, fun A2 E2 i v' s2 m2 _ at_ _ ns2 m2x keep2 => ?_⟩
      · simp only [List.forIn_nil]
        exact wpAny_pure ⟨rfl, GxR.keeps_refl _⟩
      · obtain ⟨cc, tk', hcc, rfl⟩ := at_
        have q2 : s2.heap.get? q = some oq := by
          refine keep2 q (List.mem_range.mpr ?_) ?_ oq (hhr q oq cell3)
          · exact Nat.lt_of_lt_of_le ltq (Nat.le_trans (by rw [szN]; exact Nat.le_succ _) sz3)
          · intro z
            rcases List.mem_cons.mp z with z | z
            · exact Nat.ne_of_lt ltq z
            · cases z
        exact wpAny_mono (el_ b _ A2 E2 cc tk' tkb s2 m2 q rfl (hclo _ _ hq1) ⟨oq, q2, hqd⟩ ns2 m2x)
          (fun z s3 r => ⟨⟨cc, hcc, r.1⟩, r.2⟩) fun _ _ e => e
    · intro g h5 n5 gs bare5 above5 sz5 keep5 W5 gat
      simp only [GxR.passing_true, List.length_range] at W5
      refine fin a b H1 g _ want ⟨_, _, _, _, _, W5.in4_1, gat, ?_, fun s9 mv => ?_⟩
      · intro i' z' sj Qj Ej hz' hQj
        obtain ⟨i, hi, cc, hcc, rfl⟩ := hz'
        obtain ⟨_, ei⟩ := List.getElem?_eq_some_iff.mp hi
        rw [List.getElem_range] at ei
        subst ei
        have at9 : a.cps.toList[i']? = some cc := by rw [Array.getElem?_toList]; exact hcc
        have hQ2 : Qj (GxR.trF (pb b) a.cps.toList i') sj := hQj
        rw [GxR.trF_some at9] at hQ2
        exact wpAny_truthy_bool hQ2
      · obtain ⟨more, em⟩ := grew
        have apart : ∀ b' u', r1.heap.get? b' = some u' → b' ∉ h3.objs.size :: [r1.heap.objs.size] := fun b' u' e' mem' => by
          have lt' := Heap.lt_size e'
          have sz9 : r1.heap.objs.size + 1 ≤ h3.objs.size := szN ▸ sz3
          rcases List.mem_cons.mp mem' with z | z
          · rw [z] at lt'
            exact absurd (Nat.lt_trans lt' (Nat.lt_of_lt_of_le (Nat.lt_succ_self _) sz9)) (Nat.lt_irrefl _)
          · rcases List.mem_cons.mp z with z | z
            · rw [z] at lt'
              exact Nat.lt_irrefl _ lt'
            · cases z
        have J9 := GxR.inv_tab (more := more) (h' := s9.heap) (g' := s9.gens) (d' := s9.drawn) (t' := s9.toks) J hTP
          (fun b' u' ne e' => mv.heap b' u' (apart b' u' e') (keep5 b' u' (old3 b' u' ne e')))
          (by rw [← em]; exact mv.heap P _ (apart P _ tabS) (keep5 P _ tab3)) (AllBare.movedS (J.bare.push bare5) mv)
        rw [GxR.sh_eta r1 s9 mv.os] at J9
        exact ⟨upd H1 P (.tbl (tb ++ more)), ⟨⟨tb ++ more, upd_same, by rw [← em]; exact tri3⟩, fun b' ne => upd_ne ne⟩, J9⟩
  cases seek : codeAmong gpos tb.toList with
  | none =>
    refine wpAny_genexprCodeX code_ (hdN.code tabN htri) (hdN.tab tabN) seek fun c' h' n' ext ge lt hco' _ htab' _ => ?_
    obtain ⟨_, _, _, _, _, _, _, _, _, _, _, _, _, _, _, _, _, _, _, tri', _⟩ := hco'
    exact onward _ h' n' _ ext (Nat.le_trans ge (Nat.le_of_lt lt)) htab'.2 ⟨_, rfl⟩ tri'
  | some cv =>
    refine wpAny_genexprCode_hit code_ (hdN.code tabN htri) seek ?_
    exact onward cv (r1.heap.push ob) r1.toks tb (Heap.ExtBut.refl _ _) (Nat.le_refl _) tabN ⟨#[], by simp⟩ htri

/-- all(elt for x in e), e a text, one captured text -/
def tAllC (P : Addr) (j : Nat) (pb : Str → Nat → Bool) (te : TE) : TE := fun σ H Q =>
  te σ H fun v H1 => ∃ a b : Str, v = .str a ∧ σ[j]? = some (some (.str b)) ∧ GxR.TabG H1 P ∧
    ∀ H2, GxR.Tabbed P H1 H2 → Q (.bl (a.cps.toList.all (pb b))) H2
theorem pe_allC {c P : Addr} {elt iter : Expr} {x y : Str} {px p pos gpos : Pos} {scope : Scope} {pb : Str → Nat → Bool}
    {te : TE} {k j : Nat} (room : Room k X.A) (hg : Gl X "all") (hm : X.mg "all" = none)
    (hb : bootBuiltins "all" = some (.builtin "all")) (tabB : GxR.TabB X.base X.mg c P) (code_ : X.env.code = .ref c)
    (S : GxR.GenS X.env scope x) (it_ : PE X iter te) (el_ : ∀ b, EltC X.prog X.w scope x y elt b (pb b))
    (hj : X.N[j]? = some y) (hcel : X.env.scope.names.lookup y = some .cell)
    (hclo : ∀ cells q, cells.lookup y = some q → (cloFrom cells scope.names []).lookup y = some q)
    (fold_ : ∀ v, genFold iter X.env v = pure v)
    (he : starEach [.GeneratorExp elt [⟨.Name x px, iter, [], 0⟩] scope gpos] X.env =
      (false, eval (.GeneratorExp elt [⟨.Name x px, iter, [], 0⟩] scope gpos) X.env) :: starEach [] X.env := by rfl) :
    PE X (.Call (.Name "all" p) [.GeneratorExp elt [⟨.Name x px, iter, [], 0⟩] scope gpos] [] pos) (tAllC P j pb te) := by
  refine ⟨fun pins s σ H Q I h => ?_⟩
  refine wpAny_Call_Name_kw (ld_blt I hg hm hb ?_)
  refine PyProof.Rows.callWith_builtin1 ?_ he (by rfl)
  rw [he]
  refine (show wpAny _ _ (spliced ((false, eval (.GeneratorExp elt [⟨.Name x px, iter, [], 0⟩] scope gpos) X.env) ::
    backTo pos (starEach [] X.env))) _ _ s from ?_)
  refine Calls.spliced_cons (gen_cap (R := fun a b H1 => ∀ H2, GxR.Tabbed P H1 H2 → Q (.bl (a.cps.toList.all (pb b))) H2)
    room tabB code_ S it_ el_ hj hcel hclo fold_ I h fun a b H1 g s5 hR rd => ?_)
  obtain ⟨fp, wr, G, F, Stg, Wg, hst, htr, back⟩ := rd
  refine Calls.spliced_nil ?_
  refine call_all_walkS (Wg.self 0 _ _ _ hst ⟨g, fp, wr, G, _, F, Stg, _, rfl, Wg, hst, htr, fun s9 mv => ?_⟩)
  obtain ⟨H2, tbd, J⟩ := back s9 mv
  refine ⟨.bl _, H2, J, rfl, ?_⟩
  rw [GxR.all_signs a (pb b)]
  exact hR H2 tbd
end
end LL
namespace LL
open PySem PySem.Spec PyProof.Rows L2
/-! ### all(elt for x in xs), xs a list, where elt may call defs -/
/-- where the element runs: a frame of its own over the def's -/
def gx (X : Cx) (cenv : Env) (N : List Str) (s : Shared) (H : Hp) (it : Addr) (A : Around) : Cx where
  prog := X.prog
  w := X.w
  K := X.K
  mg := X.mg
  base := X.base
  A := A
  N := N
  s_0 := s
  H_0 := H
  env := cenv
  outer := X.stack
  stack := cenv :: X.stack
  ex := [it]
  fn := fun _ => false
  calm := true
  pn := []
  xe := fun _ _ => False
theorem over_gen {A : Around} {elt : Expr} {gs : List Comprehension} {sc : Scope} {pos : Pos} {it acc : Value} {cenv : Env} :
    A.over (.compLoop (.GeneratorExp elt gs sc pos) 0 it acc cenv) [] = A.deeper cenv := by
  first
    | rfl
    | (obtain ⟨hd, d, fr, gs, u⟩ := A
       simp [Around.over, Around.deeper, marksOver, frameCount, unitsOf, envsOf, guardsOf, pushEnvs, pushGuards, Code.envs, Code.env?, Code.isFrame, Code.guards, Code.isGuard, Code.weight, Code.frames, Code.isCreation, Code.isCaller, Code.cUnits])
/-- same heap, other generators' states -/
theorem inv_gens {X : Cx} {pins : List (Addr × Obj)} {σ : L2.St} {H : Hp} {s s' : Shared} (I : Inv X pins σ H s) (hh : s'.heap = s.heap) (ho : s'.os = s.os) (hb : AllBare s'.gens) : Inv X pins σ H s' := by
  obtain ⟨h', g', d', t', o'⟩ := s'
  have e1 : h' = s.heap := hh
  have e2 : o' = s.os := ho
  subst e1
  subst e2
  exact I.step (g' := g') (d' := d') (t' := t') (ch := []) (fun _ z => nomatch z) (fun b o _ _ _ e _ => e) (fun b o _ _ _ e _ => ⟨o.slots, e⟩) (fun _ _ _ _ n => n)
    (fun b o _ e => ⟨o, e⟩) (fun _ _ e => e) (fun _ _ _ e => e) (fun b ps e => ⟨#[], by rw [e]; simp⟩) (fun _ z => z) I.hok hb
theorem clo_back {cells : List (Str × Addr)} {names : List (Str × NameKind)} (h : ∀ y ∈ names, y.2 = .free → ∃ c, cells.lookup y.1 = some c) {y : Str} {c : Addr}
    (e : (cloFrom cells names []).lookup y = some c) : cells.lookup y = some c := by
  rcases cloFrom_mem (PySem.mem_of_lookup e) with m | ⟨m, rfl⟩
  · cases m
  · obtain ⟨c', e'⟩ := h _ m rfl
    rw [e']
    rfl
section
variable {X : Cx} {pins : List (Addr × Obj)} {σ : L2.St} {H : Hp} {s : Shared}
/-- the start: in the state s the iterator is made, the code is there; then the frame and the generator are laid -/
theorem gen_start {scope : Scope} {x : Str} {cs : List (Str × Nat)} {cv : Value} {ia tk : Nat} {A : Around} {h1 h2 : Heap} {g2 : Array GenState} {m0 : Str → Option Value}
    (I : Inv X pins σ H s) (S : GxR.GenS X.env scope x)
    (caps : ∀ p ∈ cs, X.N[p.2]? = some p.1 ∧ X.env.scope.names.lookup p.1 = some .cell ∧ scope.names.lookup p.1 = some .free ∧
      ∀ q, X.env.cells.lookup p.1 = some q → (cloFrom X.env.cells scope.names []).lookup p.1 = some q)
    (hd : A.handled = none) (fr : A.frames = some (genEnv scope (cloFrom X.env.cells scope.names []) s.heap.objs.size cv builtinsNs X.env :: X.stack))
    (i1 : ia < s.heap.objs.size) (i2 : ∀ y c, X.env.cells.lookup y = some c → c ≠ ia) (i3 : ∀ b o, X.base.get? b = some o → b ≠ ia) (i4 : ia ∉ frs X.stack)
    (ns : h1.Ns s.heap.objs.size m0) (sb : Heap.SameBut s.heap.objs.size (s.heap.push { cls := .type "frame", data := .dict #[] }) h1)
    (keep : ∀ b o, h1.get? b = some o → h2.get? b = some o) (bare : AllBare g2) :
    Inv (gx X (genEnv scope (cloFrom X.env.cells scope.names []) s.heap.objs.size cv builtinsNs X.env) (x :: cs.map (·.1)) s H ia A) [] (none :: cs.map (fun p => σ.getD p.2 none)) H
      { s with heap := h2, gens := g2, toks := tk } := by
  have kp : ∀ b o, s.heap.get? b = some o → h2.get? b = some o := fun b o e =>
    keep b o (sb.extBut b o (Nat.ne_of_lt (Heap.lt_size e)) (Heap.get?_push_of_some _ e))
  have lt : ∀ y c, X.env.cells.lookup y = some c → c < s.heap.objs.size := fun y c e => by
    obtain ⟨v, z⟩ := I.cell y c e
    exact z.lt
  have back : ∀ {y : Str} {c : Addr}, (cloFrom X.env.cells scope.names []).lookup y = some c → X.env.cells.lookup y = some c := fun e => clo_back S.free e
  have okG : (gx X (genEnv scope (cloFrom X.env.cells scope.names []) s.heap.objs.size cv builtinsNs X.env) (x :: cs.map (·.1)) s H ia A).Ok := by
    refine ⟨I.ok.mod, S.kind, I.ok.glob, rfl, Nat.le_refl _, fun y z c e1 e2 => I.ok.inj y z c (back e1) (back e2), fun y hy => ?_, (fun y c z _ => absurd z (by simp [gx])), fun _ => hd, fr, .inr ⟨rfl, rfl⟩, fun b hb => ?_,
      I.bs, Nat.le_trans I.ok.bsz I.sz, fun b o e hb => ?_, fun b hb z => ?_, I.stack, I.stkFree⟩
    · have hk : scope.names.lookup y = some .free := by
        rcases hy with q | q
        · exact absurd rfl (S.cell _ (PySem.mem_of_lookup (show scope.names.lookup y = some .cell from q)))
        · exact q
      have hm : (y, NameKind.free) ∈ scope.names := PySem.mem_of_lookup hk
      obtain ⟨c, hc⟩ := mem_lookup (cloFrom_has (cells := X.env.cells) (acc := []) hm)
      exact ⟨c, hc⟩
    · have e : b = ia := by simpa [gx] using hb
      subst e
      exact ⟨Nat.ne_of_lt i1, fun y c e => i2 y c (back e)⟩
    · have e' : b = ia := by simpa [gx] using hb
      exact i3 b o e e'
    · have e : b = ia := by simpa [gx] using hb
      subst e
      exact i4 z
  refine ⟨okG, rfl, bare, Un.kept kp, ⟨m0, ?_, fun i y v e1 e2 e3 => ?_⟩, fun y c e => ?_, I.hok.fresh (Nat.le_refl _), fun y c e => I.freeC y c (back e), (fun p hp => absurd (show p ∈ ([] : List (Addr × Obj)) from hp) (by simp)), I.hok.kept kp, by simp [gx]⟩
  · obtain ⟨o, es, ep, e, r⟩ := ns
    exact ⟨o, es, ep, keep _ _ e, r⟩
  · cases i with
    | zero =>
      have e2 : (some (none : Option V)) = some (some v) := e2
      cases e2
    | succ j =>
      have e1 : (cs.map (·.1))[j]? = some y := e1
      have e2 : (cs.map (fun p => σ.getD p.2 none))[j]? = some (some v) := e2
      rw [List.getElem?_map] at e1 e2
      cases hp : cs[j]? with
      | none => rw [hp] at e1; cases e1
      | some p =>
        rw [hp] at e1 e2
        obtain rfl : p.1 = y := Option.some.inj e1
        have e2 : σ.getD p.2 none = some v := Option.some.inj e2
        obtain ⟨c1, c2, c3, c4⟩ := caps p (List.mem_of_getElem? hp)
        have e4 : σ[p.2]? = some (some v) := by
          rw [List.getD_eq_getElem?_getD] at e2
          cases q : σ[p.2]? with
          | none => rw [q] at e2; cases e2
          | some z => rw [q] at e2; exact congrArg some e2
        obtain ⟨m, _, look⟩ := I.loc
        obtain ⟨u, ru, lu⟩ := look p.2 p.1 v c1 e4 (.inr (.inl c2))
        refine ⟨u, ru, ?_⟩
        rcases lu with ⟨k1, _⟩ | ⟨_, q, q1, oq, q2, q3⟩
        · have k2 : X.env.scope.names.lookup p.1 = some .local := k1
          rw [c2] at k2
          cases k2
        · exact .inr ⟨.inr c3, q, c4 q q1, oq, kp _ _ q2, q3⟩
  · obtain ⟨v, o, e1, e2⟩ := I.cell y c (back e)
    exact ⟨v, o, kp _ _ e1, e2⟩
end
/-- a list or a tuple -/
def SqA (tp : Bool) (K : PySem.W.Frag) (H : Hp) (a : Addr) (xs : List V) : Prop := if tp = true then SqT K H a xs else SqL K H a xs
def itN (tp : Bool) : String := if tp = true then "tuple_iterator" else "list_iterator"
def ItO (tp : Bool) (yl : Addr) (i : Nat) (o : Obj) : Prop := o.cls = .type (itN tp) ∧ o.data = .fields #[.ref yl, .int i 0]
/-- an iterator's turn -/
theorem next_turn {tp : Bool} {X : Cx} {pins : List (Addr × Obj)} {σ : L2.St} {H : Hp} {s : Shared} {yl ia : Addr} {xs : List V} {i : Nat} {o : Obj} {v : V} {A : Around} {Q : Option Value → Shared → Prop} {E : Value → Shared → Prop}
    (I : Inv X pins σ H s) (hd : A.handled = none) (sq : SqA tp X.K H yl xs) (e : s.heap.get? ia = some o) (it : ItO tp yl i o) (hv : xs[i]? = some v)
    (h : ∀ u h1 tk o1, RelV v u → h1.get? ia = some o1 → ItO tp yl (i + 1) o1 → (∀ b o, b ≠ ia → s.heap.get? b = some o → h1.get? b = some o) → Q (some u) { s with heap := h1, toks := tk }) :
    wpAny (model X.prog X.w) A (pyNext (.ref ia)) Q E s := by
  have hlt : i < xs.length := (List.getElem?_eq_some_iff.mp hv).1
  obtain ⟨c, d⟩ := it
  cases tp with
  | false =>
    obtain ⟨its, rel, pl, _⟩ := I.list (show SqL X.K H yl xs from sq)
    have hlen : its.toArray.size = xs.length := by rw [List.size_toArray, ← rel.length]
    have ne : yl ≠ ia := fun z => by
      obtain ⟨o', e', c', _⟩ := pl.isList
      rw [z, e] at e'
      cases e'
      rw [c] at c'
      injection c' with c'
      exact absurd c' (by decide)
    refine (Walks.list hd ia yl ne its.toArray).item i s _ _ (by rw [hlen]; exact hlt) ⟨⟨o, e, c, d⟩, pl.isList⟩ fun u h1 tk hu st keep => ?_
    obtain ⟨o1, e1, r1⟩ := st.1
    obtain ⟨u', hu', r'⟩ := rel.get hv
    have hu2 : its.toArray[i]? = some u := hu
    rw [show its.toArray[i]? = some u' by simpa using hu'] at hu2
    cases hu2
    exact h _ h1 tk o1 r' e1 r1 fun b o hb q => keep b o (by simpa using hb) q
  | true =>
    obtain ⟨its, rel, pl, _⟩ := I.tuple (show SqT X.K H yl xs from sq)
    have hlen : its.toArray.size = xs.length := by rw [List.size_toArray, ← rel.length]
    have ne : yl ≠ ia := fun z => by
      obtain ⟨o', e', c', _⟩ := id pl
      rw [z, e] at e'
      cases e'
      rw [c] at c'
      injection c' with c'
      exact absurd c' (by decide)
    refine (Walks.tuple hd ia yl ne its.toArray).item i s _ _ (by rw [hlen]; exact hlt) ⟨⟨o, e, c, d⟩, pl⟩ fun u h1 tk hu st keep => ?_
    obtain ⟨o1, e1, r1⟩ := st.1
    obtain ⟨u', hu', r'⟩ := rel.get hv
    have hu2 : its.toArray[i]? = some u := hu
    rw [show its.toArray[i]? = some u' by simpa using hu'] at hu2
    cases hu2
    exact h _ h1 tk o1 r' e1 r1 fun b o hb q => keep b o (by simpa using hb) q
theorem next_end {tp : Bool} {X : Cx} {pins : List (Addr × Obj)} {σ : L2.St} {H : Hp} {s : Shared} {yl ia : Addr} {xs : List V} {o : Obj} {A : Around} {Q : Option Value → Shared → Prop} {E : Value → Shared → Prop}
    (I : Inv X pins σ H s) (hd : A.handled = none) (sq : SqA tp X.K H yl xs) (e : s.heap.get? ia = some o) (it : ItO tp yl xs.length o)
    (h : ∀ h1 tk, (∀ b o, b ≠ ia → s.heap.get? b = some o → h1.get? b = some o) → Q none { s with heap := h1, toks := tk }) :
    wpAny (model X.prog X.w) A (pyNext (.ref ia)) Q E s := by
  obtain ⟨c, d⟩ := it
  cases tp with
  | false =>
    obtain ⟨its, rel, pl, _⟩ := I.list (show SqL X.K H yl xs from sq)
    have hlen : its.toArray.size = xs.length := by rw [List.size_toArray, ← rel.length]
    have ne : yl ≠ ia := fun z => by
      obtain ⟨o', e', c', _⟩ := pl.isList
      rw [z, e] at e'
      cases e'
      rw [c] at c'
      injection c' with c'
      exact absurd c' (by decide)
    exact (Walks.list hd ia yl ne its.toArray).done s _ _ ⟨by rw [hlen]; exact ⟨o, e, c, d⟩, pl.isList⟩ fun h1 tk keep => h h1 tk fun b o hb q => keep b o (by simpa using hb) q
  | true =>
    obtain ⟨its, rel, pl, _⟩ := I.tuple (show SqT X.K H yl xs from sq)
    have hlen : its.toArray.size = xs.length := by rw [List.size_toArray, ← rel.length]
    have ne : yl ≠ ia := fun z => by
      obtain ⟨o', e', c', _⟩ := id pl
      rw [z, e] at e'
      cases e'
      rw [c] at c'
      injection c' with c'
      exact absurd c' (by decide)
    exact (Walks.tuple hd ia yl ne its.toArray).done s _ _ ⟨by rw [hlen]; exact ⟨o, e, c, d⟩, pl⟩ fun h1 tk keep => h h1 tk fun b o hb q => keep b o (by simpa using hb) q

/-- between two turns: i things were asked, each of them is so -/
def GS (X : Cx) (ga : Addr) (go : Obj) (ia : Addr) (It : Nat → Obj → Prop) (σ0 : L2.St) (g : Nat) (Pv : Nat → Hp → Prop) (i : Nat) (s : Shared) : Prop :=
  ∃ H, Inv X [(ga, go)] σ0 H s ∧ H ia = none ∧ (∃ o, s.heap.get? ia = some o ∧ It i o) ∧ g < s.gens.size ∧ Pv i H
/-- what is told when one thing was asked -/
def GY (X : Cx) (ga : Addr) (go : Obj) (ia : Addr) (It : Nat → Obj → Prop) (σ0 : L2.St) (g : Nat) (Pv : Nat → Hp → Prop) (Qf : Hp → Prop) (n : Nat) : Protocol := fun m _ v s kap =>
  g < s.gens.size ∧ ∃ b : Bool, v = .bool b ∧ (if b = true then ∃ i, i + m = n ∧ GS X ga go ia It σ0 g Pv i s ∧
      ∀ s'' : Shared, s''.heap = s.heap → s''.os = s.os → AllBare s''.gens → g < s''.gens.size → kap (.send .none) s''
    else ∃ H, Inv X [(ga, go)] σ0 H s ∧ Qf H)
def GR (X : Cx) (ga : Addr) (go : Obj) (σ0 : L2.St) (g : Nat) (Pv : Nat → Hp → Prop) (n : Nat) (m : Nat) (s : Shared) : Prop :=
  m = 0 ∧ ∃ H, Inv X [(ga, go)] σ0 H s ∧ g < s.gens.size ∧ Pv n H
section
variable {tp : Bool} {X : Cx} {ga ia yl : Addr} {go : Obj} {σ0 : L2.St} {g : Nat} {Pv : Nat → Hp → Prop} {Qf : Hp → Prop} {xs : List V} {te : TE}
theorem GS.gens {It : Nat → Obj → Prop} {i : Nat} {s s' : Shared} (h : GS X ga go ia It σ0 g Pv i s) (hh : s'.heap = s.heap) (ho : s'.os = s.os) (hb : AllBare s'.gens) (hg : g < s'.gens.size) : GS X ga go ia It σ0 g Pv i s' := by
  obtain ⟨H, I, n, it, _, p⟩ := h
  exact ⟨H, inv_gens I hh ho hb, n, by rw [hh]; exact it, hg, p⟩
theorem pinNe {H : Hp} {s : Shared} {i : Nat} {o : Obj} (I : Inv X [(ga, go)] σ0 H s) (e' : s.heap.get? ia = some o) (it : ItO tp yl i o) (isGen : go.cls = .type "generator") (hpn : X.pn = []) :
    ∀ q ∈ X.pn ++ [(ga, go)], q.1 ≠ ia := by
  intro q hq
  rw [hpn, List.nil_append] at hq
  obtain rfl := List.mem_singleton.mp hq
  intro z
  obtain ⟨e, _⟩ := I.pin (ga, go) (List.mem_append_right _ (List.mem_singleton.mpr rfl))
  obtain ⟨c, _⟩ := it
  have z : ga = ia := z
  have e : s.heap.get? ga = some go := e
  rw [z, e'] at e
  cases e
  rw [isGen] at c
  injection c with c
  cases tp <;> exact absurd c (by decide)
theorem gl_loop {B : Around} {elt iter : Expr} {x : Str} {px pos : Pos} {scope : Scope} (hA : X.A = B.deeper X.env) (hd : B.handled = none)
    (isGen : go.cls = .type "generator") (hpn : X.pn = []) (hia : ia ∈ X.ex) (hN : X.N.Nodup) (h0 : X.N[0]? = some x) (hl : X.env.scope.names.lookup x = some .local) (hco : X.env.scope.isCoroutine = false)
    (hσ : σ0[0]? = some none) (hel : PE X elt te) (xe : ∀ e s, X.xe e s → False)
    (list_ : ∀ i H, Pv i H → SqA tp X.K H yl xs) (step : ∀ i v H, xs[i]? = some v → Pv i H → te (σ0.set 0 (some v)) H fun y H' => ∃ b, y = .bl b ∧ if b = true then Pv (i + 1) H' else Qf H') :
    ∀ (r i : Nat) (s0 s : Shared), xs.length - i = r → i ≤ xs.length → GS X ga go ia (ItO tp yl) σ0 g Pv i s →
      Seg (model X.prog X.w) B (fun m _ q s1 => q = .ok .next ∧ GR X ga go σ0 g Pv xs.length m s1) (GY X ga go ia (ItO tp yl) σ0 g Pv Qf xs.length) r s0
        (.compLoop (.GeneratorExp elt [⟨.Name x px, iter, [], 0⟩] scope pos) 0 (.ref ia) .none X.env)
        ((model X.prog X.w).den (.compLoop (.GeneratorExp elt [⟨.Name x px, iter, [], 0⟩] scope pos) 0 (.ref ia) .none X.env)) [] s := by
  have over : B.over (.compLoop (.GeneratorExp elt [⟨.Name x px, iter, [], 0⟩] scope pos) 0 (.ref ia) .none X.env) [] = X.A := by rw [over_gen, hA]
  have hd' : X.A.handled = none := by rw [hA]; exact hd
  intro r
  induction r with
  | zero =>
    intro i s0 s hr hi ⟨H, I, na, ⟨oi, ei, it⟩, hg, p⟩
    have hin : i = xs.length := by omega
    subst hin
    obtain ⟨exL, exC⟩ := I.ok.exf ia hia
    show Seg _ B _ _ _ s0 _ ((compTurn (.GeneratorExp elt [⟨.Name x px, iter, [], 0⟩] scope pos) 0 (.ref ia) .none X.env).onRaise (leaving X.env)) [] s
    rw [compTurn_gen, Sem.onRaise_eq_wrap]
    refine seg_bind_wrap (wpAny_standAt ?_)
    refine seg_bind_wrap ?_
    rw [over]
    refine next_end I hd' (list_ _ _ p) ei it fun h' tk keep => ?_
    have I2 := I.turned (t' := tk) keep na exL (.inl hia) exC (pinNe I ei it isGen hpn)
    exact seg_end (.ok .next) ⟨rfl, by omega, H, I2, hg, p⟩
  | succ r ih =>
    intro i s0 s hr hi ⟨H, I, na, ⟨oj, ej, it⟩, hg, p⟩
    have hlt : i < xs.length := by omega
    obtain ⟨exL, exC⟩ := I.ok.exf ia hia
    have exF := I.ok.exfs ia hia
    show Seg _ B _ _ _ s0 _ ((compTurn (.GeneratorExp elt [⟨.Name x px, iter, [], 0⟩] scope pos) 0 (.ref ia) .none X.env).onRaise (leaving X.env)) [] s
    rw [compTurn_gen, Sem.onRaise_eq_wrap]
    refine seg_bind_wrap (wpAny_standAt ?_)
    obtain ⟨v, hv⟩ : ∃ v, xs[i]? = some v := ⟨xs[i], List.getElem?_eq_getElem hlt⟩
    refine seg_bind_wrap ?_
    rw [over]
    refine next_turn I hd' (list_ _ _ p) ej it hv fun u h1 tk oi ru e1 itn keep => ?_
    have I1 := I.turned (t' := tk) keep na exL (.inl hia) exC (pinNe I ej it isGen hpn)
    have I1p : Inv X [(ga, go), (ia, oi)] σ0 H { s with heap := h1, toks := tk } := I1.pins_of fun q hq => by
      rcases List.mem_cons.mp hq with rfl | hq
      · exact I1.pin (ga, go) (List.mem_append_right _ (List.mem_singleton.mpr rfl))
      · obtain rfl := List.mem_singleton.mp hq
        exact ⟨e1, na, exL, exF, fun v z => by
          have z : oi.data = .cell v := z
          rw [itn.2] at z
          cases z⟩
    refine seg_bind_wrap (wpAny_of_eq (rfl : letOwnedTupleGo (.Name x px) (.ref ia) u = pure ()) ?_)
    refine seg_bind_wrap ?_
    rw [over]
    refine GenW.wpAny_gsz (n := g + 1) hg ?_
    refine wpAny_assign_Name (store_ok I1p hN h0 (.inl hl) ru (fun s2 I2 hg2 => ?_) (.inr hl))
    simp only [List.forIn_nil]
    refine seg_bind_wrap (wpAny_pure ?_)
    simp only [if_true]
    have hy : ∀ v, yieldOut X.env v = yieldValue v := fun v => by simp only [yieldOut, hco, Bool.false_eq_true, if_false]
    simp only [hy]
    rw [Sem.bind_eq_wrap', Sem.bind_eq_wrap', Sem.wrap_wrap, Sem.wrap_wrap]
    refine seg_wrap ?_
    rw [over]
    refine GenW.wpAny_gsz (n := g + 1) hg2 ?_
    refine wpAny_mono (hel.run _ s2 _ H _ I2 (step i v H hv p)) (fun y s3 got hg3 => ?_) (fun e s3 z _ => (xe e s3 z).elim)
    obtain ⟨yv, H3, I3, ry, b, rfl, q⟩ := got
    obtain rfl : y = Value.bool b := ry
    have I4 : Inv X [(ga, go), (ia, oi)] σ0 H3 s3 := I3.weak (by rw [List.length_set]) fun j z hz => by
      cases j with
      | zero =>
        rw [hσ] at hz
        cases hz
      | succ j =>
        rw [List.getElem?_set_ne (by omega)]
        exact hz
    obtain ⟨p1, p2, _⟩ := I4.pin (ia, oi) (List.mem_append_right _ (List.mem_cons_of_mem _ List.mem_cons_self))
    have I5 : Inv X [(ga, go)] σ0 H3 s3 := I4.pins_of fun q hq => by
      obtain rfl := List.mem_singleton.mp hq
      exact I4.pin (ga, go) (List.mem_append_right _ List.mem_cons_self)
    refine seg_at (seg_yield rfl rfl rfl ⟨hg3, b, rfl, ?_⟩)
    cases b with
    | false =>
      rw [if_neg Bool.false_ne_true] at q ⊢
      exact ⟨H3, I5, q⟩
    | true =>
      rw [if_pos rfl] at q ⊢
      have gs : GS X ga go ia (ItO tp yl) σ0 g Pv (i + 1) s3 := ⟨H3, I5, p2, ⟨oi, p1, itn⟩, hg3, q⟩
      exact ⟨i + 1, by omega, gs, fun s4 z1 z2 z3 z4 => seg_again rfl (ih (i + 1) s4 s4 (by omega) (by omega) (gs.gens z1 z2 z3 z4))⟩
theorem bare_set {s : Shared} {g : Nat} {y : GenState} (h : AllBare s.gens) (hy : y.bare = true) : AllBare (s.setGen g y).gens := by
  intro z hz
  have hz : z ∈ s.gens.setIfInBounds g y := hz
  rcases Array.mem_or_eq_of_mem_setIfInBounds hz with m | rfl
  · exact h z m
  · exact hy
theorem size_set {s : Shared} {g : Nat} {y : GenState} : (s.setGen g y).gens.size = s.gens.size := by simp [Shared.setGen]
/-- all over such a generator -/
theorem gl_all {A B : Around} {Rr : Result → Shared → Prop} (hd : A.handled = none) (hB : B = A.in1.in1) (depth : A.depth < recursionLimit) (isG : ∀ h : Heap, h.get? ga = some go → h.IsGen ga g)
    (fin : ∀ b s' H, Inv X [(ga, go)] σ0 H s' → (if b = true then Pv xs.length H else Qf H) → Rr (.ok (.ret (.bool b))) s') :
    ∀ (m i : Nat) (s : Shared) (gs : GenState), i + m = xs.length → GS X ga go ia (ItO tp yl) σ0 g Pv i s → s.gens[g]? = some gs →
      (∀ s'' : Shared, s''.heap = s.heap → s''.os = s.os → AllBare s''.gens → g < s''.gens.size →
        gs.Goes (model X.prog X.w) B (fun m _ q s1 => q = .ok .next ∧ GR X ga go σ0 g Pv xs.length m s1) (GY X ga go ia (ItO tp yl) σ0 g Pv Qf xs.length) m (.send .none) s'') →
      codeAny (model X.prog X.w) A (.builtin "all.loop" ⟨[.ref ga], []⟩) Rr s := by
  intro m
  induction m with
  | zero =>
    intro i s gs him st hgs goes
    obtain ⟨H, I, na, it, hg, p⟩ := id st
    obtain ⟨pg, _⟩ := I.pin (ga, go) (List.mem_append_right _ (List.mem_singleton.mpr rfl))
    refine codeAny_builtin F.entry_all_loop ?_
    rw [Around.under_plainId F.plain_all_loop _]
    show wpAny _ A.in1 (pyNext (.ref ga) >>= _) _ _ s
    refine wpAny_bind ?_
    subst hB
    refine wpAny_pyNext_genexpQ (P := fun m _ s1 => GR X ga go σ0 g Pv xs.length m s1) hd I.nolimit depth (isG _ pg) hgs (goes _ rfl rfl (bare_set I.bare rfl) (by rw [size_set]; exact hg)) (fun v s1 gs' bare' got => ?_) (fun s1 got h' keep => ?_)
    · obtain ⟨hg1, b, rfl, q⟩ := got
      cases b with
      | false =>
        rw [if_neg Bool.false_ne_true] at q
        obtain ⟨H1, I1, q⟩ := q
        refine wpAny_bind (wpAny_holding (wpAny_truthy_bool ?_))
        refine wpAny_bind (wpAny_letGo ?_)
        simp only [Bool.false_eq_true, if_false]
        refine wpAny_bind (wpAny_rule (wpAny_pure ?_))
        exact fin false _ H1 (inv_gens I1 rfl rfl (bare_set I1.bare bare')) (by rw [if_neg Bool.false_ne_true]; exact q)
      | true =>
        rw [if_pos rfl] at q
        obtain ⟨j, hj, ⟨_, I1, _⟩, kap⟩ := q
        exact (kap s1 rfl rfl I1.bare hg1).elim
    · obtain ⟨_, H1, I1, hg1, q⟩ := got
      refine wpAny_bind (wpAny_rule (wpAny_pure ?_))
      have I2 := I1.kept (t' := s1.toks) keep
      exact fin true _ H1 (inv_gens I2 rfl rfl (bare_set I1.bare rfl)) (by rw [if_pos rfl]; exact q)
  | succ m ih =>
    intro i s gs him st hgs goes
    obtain ⟨H, I, na, it, hg, p⟩ := id st
    obtain ⟨pg, _⟩ := I.pin (ga, go) (List.mem_append_right _ (List.mem_singleton.mpr rfl))
    refine codeAny_builtin F.entry_all_loop ?_
    rw [Around.under_plainId F.plain_all_loop _]
    show wpAny _ A.in1 (pyNext (.ref ga) >>= _) _ _ s
    refine wpAny_bind ?_
    subst hB
    refine wpAny_pyNext_genexpQ (P := fun m _ s1 => GR X ga go σ0 g Pv xs.length m s1) hd I.nolimit depth (isG _ pg) hgs (goes _ rfl rfl (bare_set I.bare rfl) (by rw [size_set]; exact hg)) (fun v s1 gs' bare' got => ?_) (fun s1 got h' keep => ?_)
    · obtain ⟨hg1, b, rfl, q⟩ := got
      refine wpAny_bind (wpAny_holding (wpAny_truthy_bool ?_))
      refine wpAny_bind (wpAny_letGo ?_)
      cases b with
      | false =>
        rw [if_neg Bool.false_ne_true] at q
        obtain ⟨H1, I1, q⟩ := q
        simp only [Bool.false_eq_true, if_false]
        refine wpAny_bind (wpAny_rule (wpAny_pure ?_))
        exact fin false _ H1 (inv_gens I1 rfl rfl (bare_set I1.bare bare')) (by rw [if_neg Bool.false_ne_true]; exact q)
      | true =>
        rw [if_pos rfl] at q
        obtain ⟨j, hj, st1, kap⟩ := q
        simp only [if_true]
        have bare1 : AllBare s1.gens := by
          obtain ⟨_, I1, _⟩ := st1
          exact I1.bare
        have jm : j + m = xs.length := by omega
        refine wpAny_pure ⟨plainId_quiet F.plain_all_loop _, ih j _ gs' jm (st1.gens rfl rfl (bare_set bare1 bare') (by rw [size_set]; exact hg1)) (by simp [Shared.setGen, hg1]) fun s2 z1 z2 z3 z4 => ?_⟩
        exact kap s2 z1 z2 z3 z4
    · obtain ⟨z, _⟩ := got
      exact absurd z (Nat.succ_ne_zero m)
theorem gl_start {B : Around} {elt iter : Expr} {x : Str} {px pos : Pos} {scope : Scope} {n : Nat} {s0 s : Shared} {R : GenEnd} {Y : Protocol} (hd : B.handled = none) {i : Nat} (it : ∃ o, s.heap.get? ia = some o ∧ ItO tp yl i o)
    (loop : Seg (model X.prog X.w) B R Y n s0 (.compLoop (.GeneratorExp elt [⟨.Name x px, iter, [], 0⟩] scope pos) 0 (.ref ia) .none X.env)
        ((model X.prog X.w).den (.compLoop (.GeneratorExp elt [⟨.Name x px, iter, [], 0⟩] scope pos) 0 (.ref ia) .none X.env)) [] s) :
    Seg (model X.prog X.w) B R Y n s0 (.compStart (.GeneratorExp elt [⟨.Name x px, iter, [], 0⟩] scope pos) 0 (.ref ia) .none X.env)
      ((model X.prog X.w).den (.compStart (.GeneratorExp elt [⟨.Name x px, iter, [], 0⟩] scope pos) 0 (.ref ia) .none X.env)) [] s := by
  have self : ∀ (A : Around) (Q : Value → Shared → Prop) (E : Value → Shared → Prop), Q (.ref ia) s → wpAny (model X.prog X.w) A (pyIter (.ref ia)) Q E s := fun A Q E h => by
    obtain ⟨o, e, c, d⟩ := it
    cases tp with
    | false => exact wpAny_pyIter_listiter ⟨o, e, c, d⟩ h
    | true => exact wpAny_pyIter_tupleiter ⟨o, e, c, d⟩ h
  show Seg _ B _ _ _ s0 _ ((compStart (.GeneratorExp elt [⟨.Name x px, iter, [], 0⟩] scope pos) 0 (.ref ia) .none X.env).onRaise (leaving X.env)) [] s
  unfold compStart
  rw [Sem.onRaise_eq_wrap]
  show Seg _ B _ _ _ s0 _ ((ask >>= _).wrap _ _ _ _) [] s
  refine seg_bind_wrap (wpAny_askSetting ?_)
  split
  · exact seg_again rfl loop
  · first
      | exact seg_bind_wrap (wpAny_rule (seg_bind_wrap (wpAny_standAt (seg_bind_wrap (self _ _ _ (seg_again rfl loop))))))
      | (refine seg_bind_wrap (wpAny_rule ?_)
         exact seg_bind_wrap (wpAny_standAt (seg_bind_wrap (self _ _ _ (seg_again rfl loop)))))
end
/-- all(elt for x in e), e a list or a tuple -/
def tAllL (tp : Bool) (K : PySem.W.Frag) (P : Addr) (cs : List (Str × Nat)) (tl te : TE) : TE := fun σ H Q => tl σ H fun v H1 => ∃ (a : Addr) (xs : List V), v = .ref a ∧ SqA tp K H1 a xs ∧ GxR.TabG H1 P ∧
  ∃ Pv : Nat → Hp → Prop, (∀ H2, GxR.Tabbed P H1 H2 → Pv 0 H2) ∧ (∀ i H, Pv i H → SqA tp K H a xs) ∧
    (∀ i v H, xs[i]? = some v → Pv i H → te (some v :: cs.map (fun p => σ.getD p.2 none)) H fun y H' => ∃ b, y = .bl b ∧ if b = true then Pv (i + 1) H' else Q (.bl false) H') ∧
    ∀ H, Pv xs.length H → Q (.bl true) H
theorem iter_of {tp : Bool} {X : Cx} {pins : List (Addr × Obj)} {σ : L2.St} {H : Hp} {s : Shared} {a : Addr} {xs : List V} {A : Around} {Q : Value → Shared → Prop} {E : Value → Shared → Prop}
    (I : Inv X pins σ H s) (sq : SqA tp X.K H a xs) (h : Q (.ref s.heap.objs.size) { s with heap := s.heap.push { cls := .type (itN tp), data := .fields #[.ref a, .int 0 0] } }) :
    wpAny (model X.prog X.w) A (pyIter (.ref a)) Q E s := by
  cases tp with
  | false =>
    obtain ⟨its, _, pl, _⟩ := I.list (show SqL X.K H a xs from sq)
    exact wpAny_pyIter_list pl.isList h
  | true =>
    obtain ⟨its, _, pl, _⟩ := I.tuple (show SqT X.K H a xs from sq)
    exact wpAny_pyIter_tuple pl h
theorem pe_allL (tp : Bool) {X : Cx} {c P : Addr} {elt iter : Expr} {x : Str} {px p pos gpos : Pos} {scope : Scope} (cs : List (Str × Nat)) {tl te : TE} {k : Nat}
    (room : Room (k + 3) X.A) (hg : Gl X "all") (hm : X.mg "all" = none) (hb : bootBuiltins "all" = some (.builtin "all")) (tabB : GxR.TabB X.base X.mg c P) (code_ : X.env.code = .ref c)
    (S : GxR.GenS X.env scope x) (it_ : PE X iter tl) (nd : (x :: cs.map (·.1)).Nodup)
    (caps : ∀ q ∈ cs, X.N[q.2]? = some q.1 ∧ X.env.scope.names.lookup q.1 = some .cell ∧ scope.names.lookup q.1 = some .free ∧
      ∀ b, X.env.cells.lookup q.1 = some b → (cloFrom X.env.cells scope.names []).lookup q.1 = some b)
    (el_ : ∀ (cv : Value) (s : Shared) (H : Hp) (ia : Addr) (A : Around), Room k A →
      PE (gx X (genEnv scope (cloFrom X.env.cells scope.names []) s.heap.objs.size cv builtinsNs X.env) (x :: cs.map (·.1)) s H ia A) elt te)
    (fold_ : ∀ v, genFold iter X.env v = pure v)
    (he : starEach [.GeneratorExp elt [⟨.Name x px, iter, [], 0⟩] scope gpos] X.env =
      (false, eval (.GeneratorExp elt [⟨.Name x px, iter, [], 0⟩] scope gpos) X.env) :: starEach [] X.env := by rfl) :
    PE X (.Call (.Name "all" p) [.GeneratorExp elt [⟨.Name x px, iter, [], 0⟩] scope gpos] [] pos) (tAllL tp X.K P cs tl te) := by
  refine ⟨fun pins s σ H Q I h => ?_⟩
  refine wpAny_Call_Name_kw (ld_blt I hg hm hb ?_)
  refine PyProof.Rows.callWith_builtin1 ?_ he (by rfl)
  rw [he]
  refine (show wpAny _ _ (spliced ((false, eval (.GeneratorExp elt [⟨.Name x px, iter, [], 0⟩] scope gpos) X.env) ::
    backTo pos (starEach [] X.env))) _ _ s from ?_)
  refine Calls.spliced_cons ?_
  refine wpAny_GeneratorExp_make S.co (closure_ok S.free) S.cell S.dot S.kind (by have := room.dp; omega) ?_ fold_
  refine thn (it_.run pins s σ H _ I h) fun vx r1 ⟨v, H1, J, rel, want⟩ => ?_
  obtain ⟨a, xs, rfl, sq, ⟨tb, hTP, htri⟩, Pv, p0, pl, step, fin⟩ := want
  obtain rfl : vx = Value.ref a := rel
  refine iter_of J sq ?_
  have tabS : r1.heap.get? P = some { cls := .none, data := .fields tb } := J.hok P _ hTP
  have ltP : P < r1.heap.objs.size := Heap.lt_size tabS
  generalize hob : ({ cls := .type (itN tp), data := .fields #[.ref a, .int 0 0] } : Obj) = ob
  have tabN : (r1.heap.push ob).get? P = some { cls := .none, data := .fields tb } := Heap.get?_push_of_some _ tabS
  have hdN : PySem.W.CodeHd (r1.heap.push ob) c P := tabB.code.keeps fun b' u' e' => Heap.get?_push_of_some _ (J.bk b' u' e')
  have limN : (r1.heap.push ob).NoLimit := J.nolimit.push ob
  have obN : (r1.heap.push ob).get? r1.heap.objs.size = some ob := Heap.get?_push_size _ (by rw [← hob]; rfl)
  refine ⟨limN, ?_⟩
  have szN : (r1.heap.push ob).objs.size = r1.heap.objs.size + 1 := Heap.size_push ..
  have onward : ∀ (cv : Value) (h3 : Heap) (n3 : Nat) (tb' : Array Value), Heap.ExtBut P (r1.heap.push ob) h3 →
      (r1.heap.push ob).objs.size ≤ h3.objs.size → h3.get? P = some { cls := .none, data := .fields tb' } →
      (∃ more, tb' = tb ++ more) → TriplesOk tb'.toList →
      wpAny (model X.prog X.w) X.A (builtinsFor X.env.globals X.env.builtins) (fun bi s4 =>
        ∀ h', h'.Ns s4.heap.objs.size (fun y => if y = ".0" then some (.ref r1.heap.objs.size) else none) → Heap.SameBut s4.heap.objs.size (s4.heap.push { cls := .type "frame", data := .dict #[] }) h' →
          wpAny (model X.prog X.w) X.A (spliced (backTo pos (starEach [] X.env))) (fun vs s6 => wpAny (model X.prog X.w) X.A (call (.builtin "all") (.ref h'.objs.size :: vs)) (EP X pins σ Q) X.xe s6) X.xe
            { s4 with
              gens := s4.gens.push (.fresh (.compStart (.GeneratorExp elt [⟨.Name x px, iter, [], 0⟩] scope gpos) 0 (.ref r1.heap.objs.size) .none (genEnv scope (cloFrom X.env.cells scope.names []) s4.heap.objs.size cv bi X.env))),
              toks := s4.toks + 1 + 1 + 1,
              heap := h'.push { cls := .type "generator", data := .fields #[.int s4.gens.size 0, .str "<genexpr>" (s4.toks + 1), .str (X.env.qual ++ "<genexpr>") (s4.toks + 1 + 1)] } }) X.xe
        { r1 with heap := h3, toks := n3 } := by
    intro cv h3 n3 tb' ext sz3 tab3 grew tri3
    obtain ⟨bm, mo, f1, f2, f3, f4, f5, f6, f7, f8⟩ := tabB.bm
    have old3 : ∀ b' u', b' ≠ P → r1.heap.get? b' = some u' → h3.get? b' = some u' := fun b' u' ne e' => ext b' u' ne (Heap.get?_push_of_some _ e')
    refine wpAny_builtinsFor (m := X.mg) (by rw [J.ok.glob]; exact ((J.mod.glob.keeps J.bk).push ob).extBut ext tabB.gP) f1 f2 (old3 _ _ f4 (J.bk _ _ f5)) f6 f7 f8 ?_
    intro h' ns sb
    obtain ⟨more, em⟩ := grew
    have J4 := GxR.inv_tab (more := more) (h' := h3) (g' := r1.gens) (d' := r1.drawn) (t' := n3) J hTP old3 (by rw [← em]; exact tab3) J.bare
    generalize hH2 : upd H1 P (.tbl (tb ++ more)) = H2 at J4
    have tbd : GxR.Tabbed P H1 H2 := by
      rw [← hH2]
      exact ⟨⟨tb ++ more, upd_same, by rw [← em]; exact tri3⟩, fun b' ne => upd_ne ne⟩
    generalize hgo : ({ cls := .type "generator", data := .fields #[.int r1.gens.size 0, .str "<genexpr>" (n3 + 1), .str (X.env.qual ++ "<genexpr>") (n3 + 1 + 1)] } : Obj) = go
    have i1 : r1.heap.objs.size < h3.objs.size := Nat.lt_of_lt_of_le (by rw [szN]; exact Nat.lt_succ_self _) sz3
    have ia3 : h3.get? r1.heap.objs.size = some ob := ext _ _ (Nat.ne_of_gt ltP) obN
    have ia' : h'.get? r1.heap.objs.size = some ob := sb.extBut _ _ (Nat.ne_of_lt i1) (Heap.get?_push_of_some _ ia3)
    have i2 : ∀ y b, X.env.cells.lookup y = some b → b ≠ r1.heap.objs.size := fun y b e => by
      obtain ⟨v, z⟩ := J.cell y b e
      exact Nat.ne_of_lt z.lt
    have i3 : ∀ b o, X.base.get? b = some o → b ≠ r1.heap.objs.size := fun b o e => Nat.ne_of_lt (Heap.lt_size (J.bk b o e))
    have i4 : r1.heap.objs.size ∉ frs X.stack := fun z => by
      obtain ⟨_, o, ho, _⟩ := J.stack.mem z
      exact absurd (Heap.lt_size ho) (Nat.lt_irrefl _)
    have I0 := gen_start (cs := cs) (cv := cv) (ia := r1.heap.objs.size) (A := X.A.in1.in1.deeper (genEnv scope (cloFrom X.env.cells scope.names []) h3.objs.size cv builtinsNs X.env))
      (tk := n3 + 1 + 1 + 1) (h2 := h'.push go) (g2 := r1.gens.push (.fresh (.compStart (.GeneratorExp elt [⟨.Name x px, iter, [], 0⟩] scope gpos) 0 (.ref r1.heap.objs.size) .none (genEnv scope (cloFrom X.env.cells scope.names []) h3.objs.size cv builtinsNs X.env))))
      J4 S caps room.hd (by simp [Around.deeper, Around.in1, J4.ok.frames]) i1 i2 i3 i4 ns sb (fun b o e => Heap.get?_push_of_some _ e) (J.bare.push rfl)
    have hel := el_ cv { r1 with heap := h3, toks := n3 } H2 r1.heap.objs.size (X.A.in1.in1.deeper (genEnv scope (cloFrom X.env.cells scope.names []) h3.objs.size cv builtinsNs X.env)) (room.in1.in1.deeper _)
    generalize hY : gx X (genEnv scope (cloFrom X.env.cells scope.names []) h3.objs.size cv builtinsNs X.env) (x :: cs.map (·.1)) { r1 with heap := h3, toks := n3 } H2 r1.heap.objs.size (X.A.in1.in1.deeper (genEnv scope (cloFrom X.env.cells scope.names []) h3.objs.size cv builtinsNs X.env)) = Y at I0 hel
    have isgo : go.cls = .type "generator" := by rw [← hgo]
    have gaI : (h'.push go).get? h'.objs.size = some go := Heap.get?_push_size _ (by rw [← hgo]; rfl)
    have szH : h'.objs.size = h3.objs.size + 1 := sb.1.trans (Heap.size_push ..)
    have gaH : H2 h'.objs.size = none := J4.hok.fresh (show h3.objs.size ≤ h'.objs.size by omega)
    have I1 : Inv Y [(h'.objs.size, go)] (none :: cs.map (fun p => σ.getD p.2 none)) H2 { r1 with heap := h'.push go, gens := r1.gens.push (.fresh (.compStart (.GeneratorExp elt [⟨.Name x px, iter, [], 0⟩] scope gpos) 0 (.ref r1.heap.objs.size) .none (genEnv scope (cloFrom X.env.cells scope.names []) h3.objs.size cv builtinsNs X.env))), toks := n3 + 1 + 1 + 1 } :=
      I0.pins_of fun q hq => by
        obtain rfl := List.mem_singleton.mp hq
        refine ⟨gaI, gaH, ?_, ?_, ?_⟩
        · rw [← hY]
          show h'.objs.size ≠ h3.objs.size
          omega
        · rw [← hY]
          intro z
          obtain ⟨_, o, ho, _⟩ := J.stack.mem (show h'.objs.size ∈ frs X.stack from z)
          have q1 : h'.objs.size < r1.heap.objs.size := Heap.lt_size ho
          omega
        · intro v z
          rw [← hgo] at z
          cases z
    have gs0 : GS Y h'.objs.size go r1.heap.objs.size (ItO tp a) (none :: cs.map (fun p => σ.getD p.2 none)) r1.gens.size Pv 0
        { r1 with heap := h'.push go, gens := r1.gens.push (.fresh (.compStart (.GeneratorExp elt [⟨.Name x px, iter, [], 0⟩] scope gpos) 0 (.ref r1.heap.objs.size) .none (genEnv scope (cloFrom X.env.cells scope.names []) h3.objs.size cv builtinsNs X.env))), toks := n3 + 1 + 1 + 1 } := by
      refine ⟨H2, I1, ?_, ⟨ob, Heap.get?_push_of_some _ ia', ?_⟩, by simp, p0 H2 tbd⟩
      · rw [← hH2, upd_ne (Nat.ne_of_gt ltP)]
        exact J.hok.fresh (Nat.le_refl _)
      · rw [← hob]
        exact ⟨rfl, rfl⟩
    have nY : Y.N.Nodup := by rw [← hY]; exact nd
    have gl := gl_loop (X := Y) (B := X.A.in1.in1) (ga := h'.objs.size) (go := go) (ia := r1.heap.objs.size) (yl := a) (tp := tp) (σ0 := none :: cs.map (fun p => σ.getD p.2 none)) (g := r1.gens.size) (Pv := Pv) (Qf := fun H' => Q (.bl false) H')
      (xs := xs) (te := te) (elt := elt) (iter := iter) (x := x) (px := px) (pos := gpos) (scope := scope) (by rw [← hY]; rfl) room.hd isgo (by rw [← hY]; rfl) (by rw [← hY]; exact List.mem_singleton.mpr rfl) nY
      (by rw [← hY]; rfl) (by rw [← hY]; exact S.loc) (by rw [← hY]; exact S.co) rfl hel (fun e s z => by rw [← hY] at z; exact z) (fun i H p => by rw [← hY]; exact pl i H p) (fun i v H hv p => (show (none :: cs.map (fun p => σ.getD p.2 none) : L2.St).set 0 (some v) = some v :: cs.map (fun p => σ.getD p.2 none) from rfl) ▸ step i v H hv p)
    have eY : Y.env = genEnv scope (cloFrom X.env.cells scope.names []) h3.objs.size cv builtinsNs X.env := by rw [← hY]; rfl
    refine Calls.spliced_nil ?_
    refine call_function_tree F.kind_all F.plain_all F.entry_all (F.args_all1 _) ?_
    unfold Builtin.«all»
    refine wpAny_bind (m := oneArg "all" _) (wpAny_pure ?_)
    refine wpAny_bind ?_
    have isG : ∀ h : Heap, h.get? h'.objs.size = some go → h.IsGen h'.objs.size r1.gens.size := fun h e =>
      ⟨go, _, _, e, isgo, by rw [← hgo], by rw [← hgo]⟩
    refine wpAny_pyIter_gen (isG _ gaI) ?_
    refine wpAny_pure ⟨plainId_quiet F.plain_all_loop _, ?_⟩
    have pY : model X.prog X.w = model Y.prog Y.w := by rw [← hY]; rfl
    rw [pY]
    refine gl_all (X := Y) (A := X.A) (B := X.A.in1.in1) (g := r1.gens.size) (tp := tp) (yl := a) (ia := r1.heap.objs.size) (σ0 := none :: cs.map (fun p => σ.getD p.2 none)) (Pv := Pv) (Qf := fun H' => Q (.bl false) H') (xs := xs) room.hd rfl room.depth isG ?_ xs.length 0 _ _ (Nat.zero_add _) gs0 Array.getElem?_push_size ?_
    · intro b s' H3 I3 q
      have e3 : s'.os = r1.os := by
        have := I3.os
        rw [← hY] at this
        exact this
      have u3 : Un (frs X.stack) [r1.heap.objs.size] H2 H3 h3 s'.heap := by
        have := I3.base
        rw [← hY] at this
        exact this
      have ok3 : HOk X.prog X.w H3 s'.heap := by
        have := I3.hok
        rw [← hY] at this
        exact this
      have out := J4.call' (s' := s') e3 u3 ok3 I3.bare (fun b hb => by
        obtain rfl := List.mem_singleton.mp hb
        refine ⟨.inr J.sz, Nat.ne_of_gt J.lt, i2, fun p hp z => ?_⟩
        obtain ⟨e, _⟩ := J.pin p hp
        rw [z] at e
        exact absurd (Heap.lt_size e) (Nat.lt_irrefl _))
      refine ⟨.bl b, H3, out, rfl, ?_⟩
      cases b with
      | true => rw [if_pos rfl] at q; exact fin H3 q
      | false => rw [if_neg Bool.false_ne_true] at q; exact q
    · intro s2 z1 z2 z3 z4
      refine ⟨rfl, ?_⟩
      have gs2 := gs0.gens z1 z2 z3 z4
      have lp := gl xs.length 0 s2 s2 (by omega) (Nat.zero_le _) gs2
      have out := gl_start (X := Y) (B := X.A.in1.in1) room.hd (tp := tp) (yl := a) (i := 0) (ia := r1.heap.objs.size) (by
        rw [z1]
        refine ⟨ob, Heap.get?_push_of_some _ ia', ?_⟩
        rw [← hob]
        exact ⟨rfl, rfl⟩) lp
      rw [eY] at out
      exact out
  cases seek : codeAmong gpos tb.toList with
  | none =>
    refine wpAny_genexprCodeX code_ (hdN.code tabN htri) (hdN.tab tabN) seek fun c' h' n' ext ge lt hco' _ htab' _ => ?_
    obtain ⟨_, _, _, _, _, _, _, _, _, _, _, _, _, _, _, _, _, _, _, tri', _⟩ := hco'
    exact onward _ h' n' _ ext (Nat.le_trans ge (Nat.le_of_lt lt)) htab'.2 ⟨_, rfl⟩ tri'
  | some cv =>
    refine wpAny_genexprCode_hit code_ (hdN.code tabN htri) seek ?_
    exact onward cv (r1.heap.push ob) r1.toks tb (Heap.ExtBut.refl _ _) (Nat.le_refl _) tabN ⟨#[], by simp⟩ htri
end LL
namespace LL
open PySem PySem.Spec PyProof.Rows L2
/-! ### rows of stretches, as sets of numbers -/
abbrev Pr := Nat × Nat
def has (r : List Pr) (n : Nat) : Bool := r.any fun z => decide (z.1 ≤ n) && decide (n < z.2)
def TidyFrom : Nat → List Pr → Prop
  | _, [] => True
  | b, z :: r => b ≤ z.1 ∧ z.1 < z.2 ∧ z.2 ≤ 400 ∧ TidyFrom (z.2 + 1) r
instance : ∀ (r : List Pr) (b : Nat), Decidable (TidyFrom b r)
  | [], _ => isTrue trivial
  | z :: r, b =>
    have := instDecidableTidyFrom r (z.2 + 1)
    by unfold TidyFrom; infer_instance
def Tidy (r : List Pr) : Prop := TidyFrom 0 r
instance (r : List Pr) : Decidable (Tidy r) := by unfold Tidy; infer_instance
/-- each a stretch -/
def Valid (r : List Pr) : Prop := ∀ z ∈ r, z.1 < z.2 ∧ z.2 ≤ 400
theorem has_nil (n : Nat) : has [] n = false := rfl
theorem has_cons (z : Pr) (r : List Pr) (n : Nat) : has (z :: r) n = ((decide (z.1 ≤ n) && decide (n < z.2)) || has r n) := rfl
theorem has_app (r q : List Pr) (n : Nat) : has (r ++ q) n = (has r n || has q n) := List.any_append
theorem has_one (b e n : Nat) : has [(b, e)] n = (decide (b ≤ n) && decide (n < e)) := by rw [has_cons, has_nil, Bool.or_false]
theorem TidyFrom.valid : ∀ {r : List Pr} {b : Nat}, TidyFrom b r → Valid r
  | [], _, _, _, h => nomatch h
  | z :: r, b, ⟨_, h2, h3, h4⟩, y, h => by
    rcases List.mem_cons.mp h with rfl | h
    · exact ⟨h2, h3⟩
    · exact h4.valid y h
theorem TidyFrom.weak : ∀ {r : List Pr} {b c : Nat}, c ≤ b → TidyFrom b r → TidyFrom c r
  | [], _, _, _, _ => trivial
  | _ :: _, _, _, l, ⟨h1, h2⟩ => ⟨Nat.le_trans l h1, h2⟩
theorem TidyFrom.low : ∀ {r : List Pr} {b n : Nat}, TidyFrom b r → has r n = true → b ≤ n ∧ n < 400
  | [], _, _, _, h => nomatch h
  | z :: r, b, n, ⟨h1, h2, h3, h4⟩, h => by
    rw [has_cons] at h
    rcases Bool.or_eq_true_iff.mp h with h | h
    · have h := Bool.and_eq_true_iff.mp h
      have l := of_decide_eq_true h.1
      have u := of_decide_eq_true h.2
      omega
    · have := h4.low h
      omega
theorem TidyFrom.none {r : List Pr} {b n : Nat} (h : TidyFrom b r) (l : n < b) : has r n = false := by
  cases q : has r n with
  | false => rfl
  | true =>
    have := (h.low q).1
    omega
theorem has_lt {r : List Pr} {n : Nat} (h : Valid r) (q : has r n = true) : n < 400 := by
  obtain ⟨z, hz, q⟩ := List.any_eq_true.mp q
  have q := Bool.and_eq_true_iff.mp q
  have := of_decide_eq_true q.2
  have := (h z hz).2
  omega
/-- two tidy rows of the same numbers are one -/
theorem tidy_one : ∀ {r q : List Pr} {b c : Nat}, TidyFrom b r → TidyFrom c q → (∀ n, has r n = has q n) → r = q
  | [], [], _, _, _, _, _ => rfl
  | [], z :: q, _, c, _, ⟨h1, h2, _, _⟩, e => by
    have := e z.1
    rw [has_nil, has_cons, decide_eq_true (Nat.le_refl z.1), decide_eq_true h2] at this
    cases this
  | z :: r, [], b, _, ⟨h1, h2, _, _⟩, _, e => by
    have := e z.1
    rw [has_nil, has_cons, decide_eq_true (Nat.le_refl z.1), decide_eq_true h2] at this
    cases this
  | z :: r, y :: q, b, c, ⟨h1, h2, h3, h4⟩, ⟨g1, g2, g3, g4⟩, e => by
    have inZ : ∀ n, z.1 ≤ n → n < z.2 → has (z :: r) n = true := fun n l u => by rw [has_cons, decide_eq_true l, decide_eq_true u]; rfl
    have inY : ∀ n, y.1 ≤ n → n < y.2 → has (y :: q) n = true := fun n l u => by rw [has_cons, decide_eq_true l, decide_eq_true u]; rfl
    have lowZ : ∀ n, n < z.1 → has (z :: r) n = false := fun n l => TidyFrom.none (b := z.1) (r := z :: r) ⟨Nat.le_refl _, h2, h3, h4⟩ l
    have lowY : ∀ n, n < y.1 → has (y :: q) n = false := fun n l => TidyFrom.none (b := y.1) (r := y :: q) ⟨Nat.le_refl _, g2, g3, g4⟩ l
    have e1 : z.1 = y.1 := by
      rcases Nat.lt_trichotomy z.1 y.1 with l | l | l
      · have a := inZ z.1 (Nat.le_refl _) h2
        rw [e, lowY _ l] at a
        cases a
      · exact l
      · have a := inY y.1 (Nat.le_refl _) g2
        rw [← e, lowZ _ l] at a
        cases a
    have outZ : has (z :: r) z.2 = false := by
      rw [has_cons, decide_eq_false (Nat.lt_irrefl _), Bool.and_false, Bool.false_or]
      exact h4.none (Nat.lt_succ_self _)
    have outY : has (y :: q) y.2 = false := by
      rw [has_cons, decide_eq_false (Nat.lt_irrefl _), Bool.and_false, Bool.false_or]
      exact g4.none (Nat.lt_succ_self _)
    have e2 : z.2 = y.2 := by
      rcases Nat.lt_trichotomy z.2 y.2 with l | l | l
      · have a := inY z.2 (by omega) l
        rw [← e, outZ] at a
        cases a
      · exact l
      · have a := inZ y.2 (by omega) l
        rw [e, outY] at a
        cases a
    have e3 : z = y := Prod.ext e1 e2
    subst e3
    have e4 : r = q := tidy_one h4 g4 fun n => by
      by_cases l : n < z.2 + 1
      · rw [h4.none l, g4.none l]
      · have a := e n
        rw [has_cons, has_cons, decide_eq_false (show ¬ n < z.2 by omega), Bool.and_false, Bool.false_or, Bool.false_or] at a
        exact a
    rw [e4]
theorem tidy_eq {r q : List Pr} (h : Tidy r) (g : Tidy q) (e : ∀ n, has r n = has q n) : r = q := tidy_one h g e
theorem TidyFrom.app : ∀ {r : List Pr} {b x y : Nat}, TidyFrom b r → (∀ z ∈ r, z.2 < x) → b ≤ x → x < y → y ≤ 400 → TidyFrom b (r ++ [(x, y)])
  | [], _, _, _, _, _, l, l2, l3 => ⟨l, l2, l3, trivial⟩
  | z :: r, b, x, y, ⟨h1, h2, h3, h4⟩, h, l, l2, l3 => ⟨h1, h2, h3, h4.app (fun w hw => h w (List.mem_cons_of_mem _ hw)) (h z List.mem_cons_self) l2 l3⟩
theorem Tidy.app {r : List Pr} {x y : Nat} (h : Tidy r) (l : ∀ z ∈ r, z.2 < x) (l2 : x < y) (l3 : y ≤ 400) : Tidy (r ++ [(x, y)]) := TidyFrom.app h l (Nat.zero_le _) l2 l3
/-- the last stretch goes one further -/
theorem TidyFrom.grow : ∀ {r : List Pr} {b x y : Nat}, TidyFrom b (r ++ [(x, y)]) → y + 1 ≤ 400 → TidyFrom b (r ++ [(x, y + 1)])
  | [], _, _, _, ⟨h1, h2, _, _⟩, l => ⟨h1, Nat.lt_succ_of_lt h2, l, trivial⟩
  | z :: r, b, x, y, ⟨h1, h2, h3, h4⟩, l => ⟨h1, h2, h3, TidyFrom.grow (r := r) h4 l⟩
theorem TidyFrom.len : ∀ {r : List Pr} {b : Nat}, TidyFrom b r → 2 * r.length + b ≤ 402 ∨ r = []
  | [], _, _ => .inr rfl
  | z :: r, b, ⟨h1, h2, h3, h4⟩ => by
    rcases h4.len with k | rfl
    · left
      rw [List.length_cons]
      omega
    · left
      rw [List.length_cons, List.length_nil]
      omega
theorem Tidy.len {r : List Pr} (h : Tidy r) : r.length ≤ 201 := by
  rcases TidyFrom.len h with k | rfl
  · omega
  · exact Nat.zero_le _
/-! ### the same as whole numbers -/
def span (z : Pr) : Nat := 2 ^ z.2 - 2 ^ z.1
theorem span_bit {z : Pr} (h : z.1 ≤ z.2) (n : Nat) : (span z).testBit n = (decide (z.1 ≤ n) && decide (n < z.2)) := by
  obtain ⟨b, e⟩ := z
  obtain ⟨k, rfl⟩ := Nat.exists_eq_add_of_le (show b ≤ e from h)
  have e1 : span (b, b + k) = 2 ^ b * (2 ^ k - 1) := by
    show 2 ^ (b + k) - 2 ^ b = _
    rw [Nat.pow_add, Nat.mul_sub, Nat.mul_one]
  rw [e1, Nat.testBit_two_pow_mul, Nat.testBit_two_pow_sub_one]
  by_cases l : b ≤ n
  · rw [decide_eq_true (show n ≥ b from l), Bool.true_and, Bool.true_and, decide_eq_decide]
    show n - b < k ↔ n < b + k
    omega
  · rw [decide_eq_false (show ¬ n ≥ b from l)]
    rfl
def maskN (r : List Pr) : Nat := r.foldl (fun m z => m ||| span z) 0
theorem mask_fold : ∀ (r : List Pr) (m n : Nat), Valid r → (r.foldl (fun m z => m ||| span z) m).testBit n = (m.testBit n || has r n)
  | [], m, n, _ => by rw [has_nil, Bool.or_false]; rfl
  | z :: r, m, n, h => by
    rw [List.foldl_cons, mask_fold r _ n (fun y hy => h y (List.mem_cons_of_mem _ hy)), Nat.testBit_or, span_bit (Nat.le_of_lt (h z List.mem_cons_self).1), has_cons, Bool.or_assoc]
theorem mask_bit {r : List Pr} (h : Valid r) (n : Nat) : (maskN r).testBit n = has r n := by
  unfold maskN
  rw [mask_fold r 0 n h, Nat.zero_testBit, Bool.false_or]
theorem lt_of_bits {m k : Nat} (h : ∀ n, m.testBit n = true → n < k) : m < 2 ^ k := by
  apply Nat.lt_pow_two_of_testBit
  intro i hi
  cases q : m.testBit i with
  | false => rfl
  | true =>
    have := h i q
    omega
theorem mask_lt {r : List Pr} (h : Valid r) : maskN r < 2 ^ 400 := lt_of_bits fun n q => by
  rw [mask_bit h] at q
  exact has_lt h q
/-! ### the lowest figure -/
theorem odd_part : ∀ a : Nat, 0 < a → ∃ k j : Nat, a = 2 ^ k * (2 * j + 1) := by
  intro a
  induction a using Nat.strongRecOn with
  | ind a ih =>
    intro h
    by_cases o : a % 2 = 1
    · exact ⟨0, a / 2, by rw [Nat.pow_zero, Nat.one_mul]; omega⟩
    · obtain ⟨k, j, e⟩ := ih (a / 2) (by omega) (by omega)
      refine ⟨k + 1, j, ?_⟩
      rw [Nat.pow_succ, Nat.mul_comm (2 ^ k) 2, Nat.mul_assoc, ← e]
      omega
theorem and_pred (k j : Nat) : (2 ^ k * (2 * j + 1)) &&& (2 ^ k * (2 * j + 1) - 1) = 2 ^ k * (2 * j) := by
  have p := Nat.two_pow_pos k
  have e1 : 2 ^ k * (2 * j + 1) - 1 = 2 ^ k * (2 * j) + (2 ^ k - 1) := by
    rw [Nat.mul_add, Nat.mul_one]
    omega
  apply Nat.eq_of_testBit_eq
  intro n
  rw [Nat.testBit_and, Nat.testBit_two_pow_mul, Nat.testBit_two_pow_mul, e1, Nat.testBit_two_pow_mul_add _ (by omega), Nat.testBit_two_pow_sub_one]
  by_cases l : n < k
  · rw [decide_eq_false (show ¬ n ≥ k by omega)]
    rfl
  · rw [if_neg l, decide_eq_true (show n ≥ k by omega), Bool.true_and, Bool.true_and]
    cases q : n - k with
    | zero =>
      rw [Nat.testBit_zero, Nat.testBit_zero]
      have : decide (2 * j % 2 = 1) = false := decide_eq_false (by omega)
      rw [this, Bool.and_false]
    | succ i =>
      rw [Nat.testBit_succ, Nat.testBit_succ]
      have : (2 * j + 1) / 2 = 2 * j / 2 := by omega
      rw [this, Bool.and_self]
theorem bits_low (k j : Nat) : Builtin.bitAnd ((2 ^ k * (2 * j + 1) : Nat) : Int) (-((2 ^ k * (2 * j + 1) : Nat) : Int)) = ((2 ^ k : Nat) : Int) ∧
    Builtin.bitAnd (-((2 ^ k * (2 * j + 1) : Nat) : Int)) ((2 ^ k * (2 * j + 1) : Nat) : Int) = ((2 ^ k : Nat) : Int) := by
  have p := Nat.two_pow_pos k
  generalize ha : 2 ^ k * (2 * j + 1) = a
  have a0 : 0 < a := by rw [← ha]; exact Nat.mul_pos p (by omega)
  have low : a &&& (a - 1) = 2 ^ k * (2 * j) := by rw [← ha]; exact and_pred k j
  have sub : a = 2 ^ k * (2 * j) + 2 ^ k := by rw [← ha, Nat.mul_add, Nat.mul_one]
  have h1 : decide ((0 : Int) ≤ (a : Int)) = true := decide_eq_true (Int.natCast_nonneg a)
  have h2 : decide ((0 : Int) ≤ -(a : Int)) = false := decide_eq_false (by omega)
  have h3 : (Builtin.bitNot (-(a : Int))).toNat = a - 1 := by
    show (-(-(a : Int)) - 1).toNat = a - 1
    omega
  constructor
  · unfold Builtin.bitAnd
    simp only [h1, h2]
    rw [h3, Int.toNat_natCast, low]
    omega
  · unfold Builtin.bitAnd
    simp only [h1, h2]
    rw [h3, Int.toNat_natCast, low]
    omega
theorem bits_pow (k : Nat) : Builtin.Int.intBits ((2 ^ k : Nat) : Int) = k + 1 := by
  unfold Builtin.Int.intBits
  have p := Nat.two_pow_pos k
  have ne : ¬ (((2 ^ k : Nat) : Int) == 0) = true := by
    generalize 2 ^ k = x at p ⊢
    simp
    omega
  rw [if_neg ne]
  rw [Int.natAbs_natCast, Nat.log2_two_pow]
/-- i's lowest figure is worth 2 ^ k -/
def Low (i : Int) (k : Nat) : Prop := ∃ j : Nat, i = ((2 ^ k * (2 * j + 1) : Nat) : Int) ∨ i = -((2 ^ k * (2 * j + 1) : Nat) : Int)
theorem Low.bits {i : Int} {k : Nat} (h : Low i k) : Builtin.bitAnd i (-i) = ((2 ^ k : Nat) : Int) := by
  obtain ⟨j, rfl | rfl⟩ := h
  · exact (bits_low k j).1
  · rw [Int.neg_neg]
    exact (bits_low k j).2
/-- the first number of a mask, from e on -/
theorem low_of {m e : Nat} (h : m / 2 ^ e ≠ 0) : ∃ k, Low ((m / 2 ^ e : Nat) : Int) k ∧ m.testBit (e + k) = true ∧ ∀ n, e ≤ n → n < e + k → m.testBit n = false := by
  obtain ⟨k, j, q⟩ := odd_part (m / 2 ^ e) (Nat.pos_of_ne_zero h)
  have bit : ∀ n, m.testBit (e + n) = (2 ^ k * (2 * j + 1)).testBit n := fun n => by
    rw [← q, Nat.testBit_div_two_pow, Nat.add_comm]
  refine ⟨k, ⟨j, .inl (by rw [q])⟩, ?_, fun n l u => ?_⟩
  · rw [bit, Nat.testBit_two_pow_mul, Nat.sub_self, Nat.testBit_zero, decide_eq_true (Nat.le_refl k), decide_eq_true (by omega)]
    rfl
  · obtain ⟨d, rfl⟩ := Nat.exists_eq_add_of_le l
    rw [bit, Nat.testBit_two_pow_mul, decide_eq_false (by omega)]
    rfl
/-- how far a mask's numbers go on from b -/
theorem low_not {m b : Nat} (h : m.testBit b = true) : ∃ k, 0 < k ∧ Low (Builtin.bitNot ((m / 2 ^ b : Nat) : Int)) k ∧ m.testBit (b + k) = false ∧ ∀ n, b ≤ n → n < b + k → m.testBit n = true := by
  obtain ⟨k, j, q⟩ := odd_part (m / 2 ^ b + 1) (Nat.succ_pos _)
  have p := Nat.two_pow_pos k
  have q1 : m / 2 ^ b = 2 ^ k * (2 * j) + (2 ^ k - 1) := by
    rw [Nat.mul_add, Nat.mul_one] at q
    omega
  have bit : ∀ n, m.testBit (b + n) = if n < k then true else (2 * j).testBit (n - k) := fun n => by
    rw [Nat.add_comm, ← Nat.testBit_div_two_pow, q1, Nat.testBit_two_pow_mul_add _ (by omega), Nat.testBit_two_pow_sub_one]
    split
    · rename_i l
      exact decide_eq_true l
    · rfl
  have k0 : 0 < k := by
    have := bit 0
    rw [Nat.add_zero, h] at this
    by_cases z : 0 < k
    · exact z
    · rw [if_neg z, show 0 - k = 0 by omega, Nat.testBit_zero, decide_eq_false (by omega)] at this
      cases this
  refine ⟨k, k0, ⟨j, .inr ?_⟩, ?_, fun n l u => ?_⟩
  · rw [← q]
    show -((m / 2 ^ b : Nat) : Int) - 1 = _
    omega
  · rw [bit, if_neg (Nat.lt_irrefl k), Nat.sub_self, Nat.testBit_zero]
    exact decide_eq_false (by omega)
  · obtain ⟨d, rfl⟩ := Nat.exists_eq_add_of_le l
    rw [bit, if_pos (by omega)]
theorem no_more {m e : Nat} (h : m / 2 ^ e = 0) : ∀ n, e ≤ n → m.testBit n = false := fun n l => by
  obtain ⟨d, rfl⟩ := Nat.exists_eq_add_of_le l
  rw [Nat.add_comm, ← Nat.testBit_div_two_pow, h, Nat.zero_testBit]
theorem or_masks (a b : Nat) : Builtin.bitOr (a : Int) (b : Int) = ((a ||| b : Nat) : Int) := by
  rw [bitOr_nn (Int.natCast_nonneg a) (Int.natCast_nonneg b), Int.toNat_natCast, Int.toNat_natCast]
theorem and_masks (a b : Nat) : Builtin.bitAnd (a : Int) (b : Int) = ((a &&& b : Nat) : Int) := by
  unfold Builtin.bitAnd
  simp only [decide_eq_true (Int.natCast_nonneg a), decide_eq_true (Int.natCast_nonneg b)]
  rw [Int.toNat_natCast, Int.toNat_natCast]
theorem less_masks (a b : Nat) : Builtin.bitAnd (a : Int) (Builtin.bitNot (b : Int)) = ((a - (a &&& b) : Nat) : Int) := by
  have e : Builtin.bitNot (Builtin.bitNot (b : Int)) = (b : Int) := by
    show -(-(b : Int) - 1) - 1 = b
    omega
  have n : ¬ (0 : Int) ≤ Builtin.bitNot (b : Int) := by
    show ¬ (0 : Int) ≤ -(b : Int) - 1
    omega
  unfold Builtin.bitAnd
  simp only [decide_eq_true (Int.natCast_nonneg a), decide_eq_false n]
  rw [e, Int.toNat_natCast, Int.toNat_natCast]
  have le : a &&& b ≤ a := Nat.and_le_left
  omega
theorem less_bit (n : Nat) : ∀ a b : Nat, (a - (a &&& b)).testBit n = (a.testBit n && !b.testBit n) := by
  induction n with
  | zero =>
    intro a b
    have le : a &&& b ≤ a := Nat.and_le_left
    have lo : ((a &&& b) % 2 = 1) ↔ (a % 2 = 1 ∧ b % 2 = 1) := by
      have := congrArg (fun x : Bool => x = true) (Nat.testBit_and a b 0)
      simpa [Nat.testBit_zero] using this
    rw [Nat.testBit_zero, Nat.testBit_zero, Nat.testBit_zero]
    rcases Nat.mod_two_eq_zero_or_one a with ha | ha <;> rcases Nat.mod_two_eq_zero_or_one b with hb | hb <;>
      rcases Nat.mod_two_eq_zero_or_one (a &&& b) with hc | hc <;>
      first
        | (exfalso; rw [ha, hb, hc] at lo; revert lo; decide)
        | (rw [show (a - (a &&& b)) % 2 = (a % 2 + (a &&& b) % 2) % 2 by omega, ha, hb, hc]; decide)
  | succ n ih =>
    intro a b
    have le : a &&& b ≤ a := Nat.and_le_left
    have lo : ((a &&& b) % 2 = 1) ↔ (a % 2 = 1 ∧ b % 2 = 1) := by
      have := congrArg (fun x : Bool => x = true) (Nat.testBit_and a b 0)
      simpa [Nat.testBit_zero] using this
    have hi : (a &&& b) / 2 = a / 2 &&& b / 2 := Nat.and_div_two
    have le2 : a / 2 &&& b / 2 ≤ a / 2 := Nat.and_le_left
    rw [Nat.testBit_succ, Nat.testBit_succ, Nat.testBit_succ, ← ih]
    congr 1
    omega
end LL
namespace LL
open PySem PySem.Spec PyProof.Rows L2
/-- a def of the top: where it stands and how it is called -/
structure Dn (K : PySem.W.Frag) (mg : Str → Option Value) (x : Str) (st : Stmt) (ps : List Str) where
  f : Addr
  fd : FuncData
  m : mg x = some (.ref f)
  F : Fun K x x st f fd
  b : Binds K fd ps []

theorem pcall {X : Cx} {x : Str} {st : Stmt} {ps : List Str} {sp : Sp} {j k : Nat} {e : Expr} {es : List Expr} {t : TA} {p pos : Pos}
    (D : Dn X.K X.mg x st ps) (G : FnOk X.prog X.w X.K X.mg X.base CX0 j D.f D.fd ps sp) (hr : Room k X.A) (hjk : j ≤ k)
    (hg : Gl X x) (ha : PA X (e :: es) t) (hd : (x == ("__debug__" : Str)) = false := by decide)
    (he : starEach (e :: es) X.env = (false, eval e X.env) :: starEach es X.env := by rfl)
    (hp : (backTo pos (starEach es X.env)).any (·.1) = false := by rfl) :
    PE X (.Call (.Name x p) (e :: es) [] pos) (tCall sp [] E0 t) :=
  pe_call G (hr.mono hjk) hg D.m D.F.kp D.b .nil pass0 ha hd he hp
theorem pcall0 {X : Cx} {x : Str} {st : Stmt} {ps : List Str} {sp : Sp} {j k : Nat} {p pos : Pos}
    (D : Dn X.K X.mg x st ps) (G : FnOk X.prog X.w X.K X.mg X.base CX0 j D.f D.fd ps sp) (hr : Room k X.A) (hjk : j ≤ k)
    (hg : Gl X x) (hd : (x == ("__debug__" : Str)) = false := by decide) :
    PE X (.Call (.Name x p) [] [] pos) (tCall sp [] E0 tNil) :=
  pe_call0 G (hr.mono hjk) hg D.m D.F.kp D.b .nil pass0 hd

/-- what may be asked of: None, a bool, an int, a text, a list, a tuple, a dict -/
inductive Thing (K : PySem.W.Frag) (H : Hp) : V → Prop
  | non : Thing K H .non
  | bl (b : Bool) : Thing K H (.bl b)
  | int (i : Int) : Thing K H (.int i)
  | str (z : Str) : Thing K H (.str z)
  | lst {a : Addr} (h : TyX K H (.ref a) (.type "list")) : Thing K H (.ref a)
  | tup {a : Addr} (h : TyX K H (.ref a) (.type "tuple")) : Thing K H (.ref a)
  | dct {a : Addr} (h : TyX K H (.ref a) (.type "dict")) : Thing K H (.ref a)
def isInt : V → Bool
  | .int _ => true
  | _ => false
def isIntB : V → Bool
  | .int _ => true
  | .bl _ => true
  | _ => false
def isBl : V → Bool
  | .bl _ => true
  | _ => false
def isStr : V → Bool
  | .str _ => true
  | _ => false
/-- isinstance(x, T) for such a thing -/
theorem isi_int {K : PySem.W.Frag} {H : Hp} {x : V} {Q : VK} (h : Thing K H x) (q : Q (.bl (isIntB x)) H) : rIsi K [x, .ty "int"] H Q := by
  cases h with
  | non => exact ⟨_, _, _, _, _, rfl, .ty _, .base .non, kit_ty (r := false) (by decide +kernel), q⟩
  | bl b => exact ⟨_, _, _, _, _, rfl, .ty _, .base (.bl b), kit_ty (r := true) (by decide +kernel), q⟩
  | int i => exact ⟨_, _, _, _, _, rfl, .ty _, .base (.int i), kit_ty (r := true) (by decide +kernel), q⟩
  | str z => exact ⟨_, _, _, _, _, rfl, .ty _, .base (.str z), kit_ty (r := false) (by decide +kernel), q⟩
  | lst h => exact ⟨_, _, _, _, _, rfl, .ty _, h, kit_ty (r := false) (by decide +kernel), q⟩
  | tup h => exact ⟨_, _, _, _, _, rfl, .ty _, h, kit_ty (r := false) (by decide +kernel), q⟩
  | dct h => exact ⟨_, _, _, _, _, rfl, .ty _, h, kit_ty (r := false) (by decide +kernel), q⟩
theorem isi_bool {K : PySem.W.Frag} {H : Hp} {x : V} {Q : VK} (h : Thing K H x) (q : Q (.bl (isBl x)) H) : rIsi K [x, .ty "bool"] H Q := by
  cases h with
  | non => exact ⟨_, _, _, _, _, rfl, .ty _, .base .non, kit_ty (r := false) (by decide +kernel), q⟩
  | bl b => exact ⟨_, _, _, _, _, rfl, .ty _, .base (.bl b), kit_ty (r := true) (by decide +kernel), q⟩
  | int i => exact ⟨_, _, _, _, _, rfl, .ty _, .base (.int i), kit_ty (r := false) (by decide +kernel), q⟩
  | str z => exact ⟨_, _, _, _, _, rfl, .ty _, .base (.str z), kit_ty (r := false) (by decide +kernel), q⟩
  | lst h => exact ⟨_, _, _, _, _, rfl, .ty _, h, kit_ty (r := false) (by decide +kernel), q⟩
  | tup h => exact ⟨_, _, _, _, _, rfl, .ty _, h, kit_ty (r := false) (by decide +kernel), q⟩
  | dct h => exact ⟨_, _, _, _, _, rfl, .ty _, h, kit_ty (r := false) (by decide +kernel), q⟩
theorem isi_str {K : PySem.W.Frag} {H : Hp} {x : V} {Q : VK} (h : Thing K H x) (q : Q (.bl (isStr x)) H) : rIsi K [x, .ty "str"] H Q := by
  cases h with
  | non => exact ⟨_, _, _, _, _, rfl, .ty _, .base .non, kit_ty (r := false) (by decide +kernel), q⟩
  | bl b => exact ⟨_, _, _, _, _, rfl, .ty _, .base (.bl b), kit_ty (r := false) (by decide +kernel), q⟩
  | int i => exact ⟨_, _, _, _, _, rfl, .ty _, .base (.int i), kit_ty (r := false) (by decide +kernel), q⟩
  | str z => exact ⟨_, _, _, _, _, rfl, .ty _, .base (.str z), kit_ty (r := true) (by decide +kernel), q⟩
  | lst h => exact ⟨_, _, _, _, _, rfl, .ty _, h, kit_ty (r := false) (by decide +kernel), q⟩
  | tup h => exact ⟨_, _, _, _, _, rfl, .ty _, h, kit_ty (r := false) (by decide +kernel), q⟩
  | dct h => exact ⟨_, _, _, _, _, rfl, .ty _, h, kit_ty (r := false) (by decide +kernel), q⟩

section
variable {X : Cx}
theorem call_is_int : CallR X (.builtin "isinstance") (fun xs H Q => ∃ x, xs = [x, .ty "int"] ∧ Thing X.K H x ∧ Q (.bl (isIntB x)) H) := by
  intro pins s σ H xs us Q I r ⟨x, e, th, q⟩
  subst e
  exact call_isi pins s σ H _ us Q I r (isi_int th q)
theorem call_is_bool : CallR X (.builtin "isinstance") (fun xs H Q => ∃ x, xs = [x, .ty "bool"] ∧ Thing X.K H x ∧ Q (.bl (isBl x)) H) := by
  intro pins s σ H xs us Q I r ⟨x, e, th, q⟩
  subst e
  exact call_isi pins s σ H _ us Q I r (isi_bool th q)
theorem call_is_str : CallR X (.builtin "isinstance") (fun xs H Q => ∃ x, xs = [x, .ty "str"] ∧ Thing X.K H x ∧ Q (.bl (isStr x)) H) := by
  intro pins s σ H xs us Q I r ⟨x, e, th, q⟩
  subst e
  exact call_isi pins s σ H _ us Q I r (isi_str th q)
end

/-- a def whose code object is known -/
theorem okC {P : Program} {w : World} {K : PySem.W.Frag} {mg : Str → Option Value} {base : Heap} {x : Str} {st : Stmt} {f c : Addr}
    {fd : FuncData} {N ps : List Str} {k : Nat} {sp : Sp} (F : Fun K x x st f fd) (hc : fd.code = .ref c) (S : FnScope N ps (defScope st))
    (len : ∀ vs H Q E, sp vs H Q E → vs.length = ps.length)
    (body : ∀ (A : Around) (outer : List Env) (s : Shared) (H : Hp) (vs : List V) (Q : VK) (E : XK),
      Room k (A.deeper (envOfC x (defScope st) s.heap.objs.size f (.ref c))) → sp vs H Q E →
      ∃ t, PSs (cxOf CX0 P w K mg base N x (defScope st) f (.ref c) A outer s H E).nox (defBody st) t ∧
        t { nx := fun _ H' => Q .non H', rt := Q } (start N vs) H) : FnOk P w K mg base CX0 (k + 1) f fd ps sp := by
  obtain ⟨c1, d1, k1, doc, pm, an, cd, c2, sl, rfl, look, isCode⟩ := F.ex
  have hcd : cd = .ref c := hc
  subst hcd
  exact fn_of look isCode S len fun A outer s H vs Q E room want =>
    let ⟨t, h, q⟩ := body A outer s H vs Q E room want
    ⟨t, h.nox, q⟩

/-- a def's facts, put together -/
def dn_mk {x : Str} {st : Stmt} {ps : List Str} {K : PySem.W.Frag} {h : Heap} {mg : Str → Option Value} {f : Addr} {oc : Value} {od an : Option Addr} {sl : Array (Option Value)} {kV doc pm cdv ct : Value}
    (X : K.In h) (G : h.Ns mainGlobals mg) (a : PySem.W.nsIn K mainGlobals x = some (some (.ref f)))
    (l : K.lookup f = some ⟨oc, od, .func (PySem.W.fnOf x x (defArgs st) (defBody st) (defScope st) .none kV doc pm an cdv ct), sl⟩)
    (c : PySem.W.codeIn K cdv x = true) (k : PySem.W.keepIn K (.ref f) = true)
    (b : ∀ (kV doc pm : Value) (an : Option Addr) (cdv ct : Value) (us : List Value), us.length = ps.length → bindArgs (PySem.W.fnOf x x (defArgs st) (defBody st) (defScope st) .none kV doc pm an cdv ct) ⟨us, []⟩ = pure (ps.zip us)) :
    Dn K mg x st ps := ⟨f, _, PySem.W.mg_of X G a, fun_mk l c k, (fun_mk l c k).binds b⟩
theorem own_mk {K : PySem.W.Frag} {h : Heap} {mg : Str → Option Value} {nm : Str} (own : ∀ f, mg nm = some (.ref f) → LamX.OwnTab K f h)
    {f c tb : Addr} {o : Obj} {fd : FuncData} {e : Value} {dd : Option Addr} {vs : Array Value} {sl : Array (Option Value)}
    (m : mg nm = some (.ref f)) (l0 : K.lookup f = some o) (d : o.data = .func fd) (cc : fd.code = .ref c)
    (l1 : K.lookup c = some ⟨e, dd, .fields vs, sl⟩) (v : vs[11]? = some (.ref tb)) : h.get? tb = some { cls := .none, data := .fields #[] } :=
  own f m c tb o fd e dd vs sl l0 d cc l1 v
theorem code_mk {K : PySem.W.Frag} {h : Heap} (X : K.In h) {c tb : Addr} {dd : Option Addr} {vs : Array Value} {sl : Array (Option Value)} {file : Str} {tf tg tt : Tok} {flags text : Int} {inF : Bool}
    (lk : K.lookup c = some ⟨.type "code", dd, .fields vs, sl⟩) (v : vs[11]? = some (.ref tb)) (v1 : vs.getD 11 .none = .ref tb) (v2 : vs.getD 18 .none = .str file tf)
    (v3 : vs.getD 7 .none = .int flags tg) (v4 : vs.getD 9 .none = .bool inF) (v5 : vs.getD 10 .none = .int text tt) (n : c ≠ tb) : PySem.W.CodeHd h c tb :=
  ⟨_, vs, file, tf, flags, tg, inF, text, tt, X _ _ lk, rfl, rfl, v, v1, v2, v3, v4, v5, n⟩

/-- such a def's call, where no repr is under way -/
theorem pcallG {X : Cx} {x : Str} {st : Stmt} {ps : List Str} {sp : Sp} {j k : Nat} {e : Expr} {es : List Expr} {t : TA} {p pos : Pos}
    (D : Dn X.K X.mg x st ps) (G : FnG X.prog X.w X.K X.mg X.base j D.f D.fd ps sp) (guard : X.A.guards = some []) (hr : Room k X.A) (hjk : j ≤ k)
    (hg : Gl X x) (ha : PA X (e :: es) t) (hd : (x == ("__debug__" : Str)) = false := by decide)
    (he : starEach (e :: es) X.env = (false, eval e X.env) :: starEach es X.env := by rfl)
    (hp : (backTo pos (starEach es X.env)).any (·.1) = false := by rfl) :
    PE X (.Call (.Name x p) (e :: es) [] pos) (tCall sp [] E0 t) :=
  pe_callG G guard (hr.mono hjk) hg D.m D.F.kp D.b ha hd he hp
theorem ix_listK {X : Cx} {K : PySem.W.Frag} (h : X.K = K) : IxR X (rIxL K) := by
  rw [← h]
  exact ix_list
theorem ix_tupK {X : Cx} {K : PySem.W.Frag} (h : X.K = K) : IxR X (rIxT K) := by
  rw [← h]
  exact ix_tup
/-- a value's truth, as a test -/
def tTru (K : PySem.W.Frag) (ta : TE) : TT := fun σ H Q => ta σ H fun x H' => ∃ k, TruV K x H' k ∧ Q k H'
theorem pt_tru {X : Cx} {a : Expr} {ta : TE} (ha : PE X a ta) (he : ∀ whole, isTrue a X.env whole = (do let v ← whole; standAt a.pos; holding [v] (truthy v)) := by intro _; rfl) : PT X a (tTru X.K ta) := pt_truth ha he
/-- isinstance(x, tuple) -/
inductive IsTup (K : PySem.W.Frag) (H : Hp) : V → Bool → Prop
  | non : IsTup K H .non false
  | bl (b : Bool) : IsTup K H (.bl b) false
  | int (i : Int) : IsTup K H (.int i) false
  | str (z : Str) : IsTup K H (.str z) false
  | lst {a : Addr} (h : TyX K H (.ref a) (.type "list")) : IsTup K H (.ref a) false
  | tup {a : Addr} (h : TyX K H (.ref a) (.type "tuple")) : IsTup K H (.ref a) true
  | dct {a : Addr} (h : TyX K H (.ref a) (.type "dict")) : IsTup K H (.ref a) false
theorem isi_tup {K : PySem.W.Frag} {H : Hp} {x : V} {b : Bool} {Q : VK} (h : IsTup K H x b) (q : Q (.bl b) H) : rIsi K [x, .ty "tuple"] H Q := by
  cases h with
  | non => exact ⟨_, _, _, _, _, rfl, .ty _, .base .non, kit_ty (r := false) (by decide +kernel), q⟩
  | bl b => exact ⟨_, _, _, _, _, rfl, .ty _, .base (.bl b), kit_ty (r := false) (by decide +kernel), q⟩
  | int i => exact ⟨_, _, _, _, _, rfl, .ty _, .base (.int i), kit_ty (r := false) (by decide +kernel), q⟩
  | str z => exact ⟨_, _, _, _, _, rfl, .ty _, .base (.str z), kit_ty (r := false) (by decide +kernel), q⟩
  | lst h => exact ⟨_, _, _, _, _, rfl, .ty _, h, kit_ty (r := false) (by decide +kernel), q⟩
  | tup h => exact ⟨_, _, _, _, _, rfl, .ty _, h, kit_ty (r := true) (by decide +kernel), q⟩
  | dct h => exact ⟨_, _, _, _, _, rfl, .ty _, h, kit_ty (r := false) (by decide +kernel), q⟩
/-- isinstance(x, list) -/
inductive IsLst (K : PySem.W.Frag) (H : Hp) : V → Bool → Prop
  | non : IsLst K H .non false
  | bl (b : Bool) : IsLst K H (.bl b) false
  | int (i : Int) : IsLst K H (.int i) false
  | str (z : Str) : IsLst K H (.str z) false
  | lst {a : Addr} (h : TyX K H (.ref a) (.type "list")) : IsLst K H (.ref a) true
  | tup {a : Addr} (h : TyX K H (.ref a) (.type "tuple")) : IsLst K H (.ref a) false
  | dct {a : Addr} (h : TyX K H (.ref a) (.type "dict")) : IsLst K H (.ref a) false
theorem isi_lst {K : PySem.W.Frag} {H : Hp} {x : V} {b : Bool} {Q : VK} (h : IsLst K H x b) (q : Q (.bl b) H) : rIsi K [x, .ty "list"] H Q := by
  cases h with
  | non => exact ⟨_, _, _, _, _, rfl, .ty _, .base .non, kit_ty (r := false) (by decide +kernel), q⟩
  | bl b => exact ⟨_, _, _, _, _, rfl, .ty _, .base (.bl b), kit_ty (r := false) (by decide +kernel), q⟩
  | int i => exact ⟨_, _, _, _, _, rfl, .ty _, .base (.int i), kit_ty (r := false) (by decide +kernel), q⟩
  | str z => exact ⟨_, _, _, _, _, rfl, .ty _, .base (.str z), kit_ty (r := false) (by decide +kernel), q⟩
  | lst h => exact ⟨_, _, _, _, _, rfl, .ty _, h, kit_ty (r := true) (by decide +kernel), q⟩
  | tup h => exact ⟨_, _, _, _, _, rfl, .ty _, h, kit_ty (r := false) (by decide +kernel), q⟩
  | dct h => exact ⟨_, _, _, _, _, rfl, .ty _, h, kit_ty (r := false) (by decide +kernel), q⟩
section
variable {X : Cx}
theorem call_is_tuple : CallR X (.builtin "isinstance") (fun xs H Q => ∃ x b, xs = [x, .ty "tuple"] ∧ IsTup X.K H x b ∧ Q (.bl b) H) := by
  intro pins s σ H xs us Q I r ⟨x, b, e, th, q⟩
  subst e
  exact call_isi pins s σ H _ us Q I r (isi_tup th q)
theorem call_is_list : CallR X (.builtin "isinstance") (fun xs H Q => ∃ x b, xs = [x, .ty "list"] ∧ IsLst X.K H x b ∧ Q (.bl b) H) := by
  intro pins s σ H xs us Q I r ⟨x, b, e, th, q⟩
  subst e
  exact call_isi pins s σ H _ us Q I r (isi_lst th q)
theorem tyX_l {K : PySem.W.Frag} {H : Hp} {a : Addr} {xs : List V} (h : H a = some (.lst xs)) : TyX K H (.ref a) (.type "list") := .base (.lst h)
theorem tyX_t {K : PySem.W.Frag} {H : Hp} {a : Addr} {xs : List V} (h : H a = some (.tup xs)) : TyX K H (.ref a) (.type "tuple") := .base (.tup h)
end
/-! ### what is kept -/
/-- all that stood is kept, but the table at P -/
structure Nw (P : Addr) (H H' : Hp) : Prop where
  was : GxR.TabG H P
  tab : GxR.TabG H' P
  old : ∀ b o, b ≠ P → H b = some o → H' b = some o
theorem Nw.refl {P : Addr} {H : Hp} (h : GxR.TabG H P) : Nw P H H := ⟨h, h, fun _ _ _ e => e⟩
theorem Nw.trans {P : Addr} {H H1 H2 : Hp} (x : Nw P H H1) (y : Nw P H1 H2) : Nw P H H2 := ⟨x.was, y.tab, fun b o n e => y.old b o n (x.old b o n e)⟩
theorem Nw.of {P : Addr} {H H' : Hp} (h : GxR.TabG H P) (t : GxR.Tabbed P H H') : Nw P H H' := ⟨h, t.1, fun b o n e => by rw [t.2 b n]; exact e⟩
theorem tab_ne {P a : Addr} {H : Hp} {o : HO} (h : GxR.TabG H P) (e : H a = some o) (n : ∀ q, o ≠ .tbl q) : a ≠ P := fun z => by
  obtain ⟨ps, e2, _⟩ := h
  rw [z, e2] at e
  exact n ps (Option.some.inj e).symm
theorem tab_free {P a : Addr} {H : Hp} (h : GxR.TabG H P) (e : H a = none) : P ≠ a := fun z => by
  obtain ⟨ps, e2, _⟩ := h
  rw [z, e] at e2
  cases e2
theorem tab_upd {P a : Addr} {H : Hp} {o : HO} (h : GxR.TabG H P) (n : P ≠ a) : GxR.TabG (upd H a o) P := by
  obtain ⟨ps, e2, t⟩ := h
  exact ⟨ps, by rw [upd_ne n]; exact e2, t⟩
/-- a new object more -/
theorem Nw.new {P p : Addr} {H H1 : Hp} {u : HO} (x : Nw P H H1) (hp : H1 p = none) : Nw P H (L2.upd H1 p u) :=
  ⟨x.was, tab_upd x.tab (tab_free x.tab hp), fun c v n q => by rw [upd_ne (ne_of_none (x.old c v n q) hp)]; exact x.old c v n q⟩
/-- an object that is new since H is changed -/
theorem Nw.put {P p : Addr} {H H1 : Hp} {u o : HO} (x : Nw P H H1) (hp : H p = none) (ho : H1 p = some o) (n : ∀ q, o ≠ .tbl q) : Nw P H (L2.upd H1 p u) :=
  ⟨x.was, tab_upd x.tab (fun z => tab_ne x.tab ho n z.symm), fun c v m q => by rw [upd_ne (ne_of_none q hp)]; exact x.old c v m q⟩
theorem Nw.lst {P a : Addr} {H H' : Hp} {xs : List V} (x : Nw P H H') (e : H a = some (.lst xs)) : H' a = some (.lst xs) := x.old _ _ (tab_ne x.was e (fun q z => by cases z)) e
theorem Nw.tup {P a : Addr} {H H' : Hp} {xs : List V} (x : Nw P H H') (e : H a = some (.tup xs)) : H' a = some (.tup xs) := x.old _ _ (tab_ne x.was e (fun q z => by cases z)) e
theorem Nw.free {P a : Addr} {H H' : Hp} (x : Nw P H H') (e : H' a = none) : H a = none := by
  cases q : H a with
  | none => rfl
  | some o =>
    by_cases z : a = P
    · obtain ⟨ps, e2, _⟩ := x.tab
      rw [z, e2] at e
      cases e
    · rw [x.old _ _ z q] at e
      cases e
/-- what is no table is kept -/
def Keep (H H' : Hp) : Prop := ∀ b o, (∀ q, o ≠ .tbl q) → H b = some o → H' b = some o
theorem Nw.keep {P : Addr} {H H' : Hp} (x : Nw P H H') : Keep H H' := fun b o n e => x.old b o (tab_ne x.was e n) e
theorem tyOf_keep {K : PySem.W.Frag} {H H' : Hp} {x : V} {t : Value} (k : Keep H H') (h : TyOf K H x t) : TyOf K H' x t := by
  cases h with
  | non => exact .non
  | bl b => exact .bl b
  | int i => exact .int i
  | str z => exact .str z
  | flt z => exact .flt z
  | lst e => exact .lst (k _ _ (fun q z => by cases z) e)
  | frz e => exact .frz (k _ _ (fun q z => by cases z) e)
  | tup e => exact .tup (k _ _ (fun q z => by cases z) e)
  | dK e => exact .dK (k _ _ (fun q z => by cases z) e)
  | dT e => exact .dT (k _ _ (fun q z => by cases z) e)
  | ins e a b c d f => exact .ins (k _ _ (fun q z => by cases z) e) a b c d f
theorem tyX_keep {K : PySem.W.Frag} {H H' : Hp} {x : V} {t : Value} (k : Keep H H') (h : TyX K H x t) : TyX K H' x t := by
  cases h with
  | base h => exact .base (tyOf_keep k h)
  | byt b => exact .byt b
  | set e => exact .set (k _ _ (fun q z => by cases z) e)
  | kList e c => exact .kList e c
  | kTuple e c => exact .kTuple e c
  | kDict e c => exact .kDict e c
  | fTuple e => exact .fTuple (k _ _ (fun q z => by cases z) e)
  | fDict e => exact .fDict (k _ _ (fun q z => by cases z) e)
theorem Thing.keep {K : PySem.W.Frag} {H H' : Hp} {x : V} (k : Keep H H') (h : Thing K H x) : Thing K H' x := by
  cases h with
  | non => exact .non
  | bl b => exact .bl b
  | int i => exact .int i
  | str z => exact .str z
  | lst h => exact .lst (tyX_keep k h)
  | tup h => exact .tup (tyX_keep k h)
  | dct h => exact .dct (tyX_keep k h)
theorem IsTup.keep {K : PySem.W.Frag} {H H' : Hp} {x : V} {b : Bool} (k : Keep H H') (h : IsTup K H x b) : IsTup K H' x b := by
  cases h with
  | non => exact .non
  | bl b => exact .bl b
  | int i => exact .int i
  | str z => exact .str z
  | lst h => exact .lst (tyX_keep k h)
  | tup h => exact .tup (tyX_keep k h)
  | dct h => exact .dct (tyX_keep k h)
theorem IsLst.keep {K : PySem.W.Frag} {H H' : Hp} {x : V} {b : Bool} (k : Keep H H') (h : IsLst K H x b) : IsLst K H' x b := by
  cases h with
  | non => exact .non
  | bl b => exact .bl b
  | int i => exact .int i
  | str z => exact .str z
  | lst h => exact .lst (tyX_keep k h)
  | tup h => exact .tup (tyX_keep k h)
  | dct h => exact .dct (tyX_keep k h)
/-! ### a row of stretches in the heap -/
inductive PrsAt (H : Hp) : List Addr → List Pr → Prop
  | nil : PrsAt H [] []
  | cons {q : Addr} {qs : List Addr} {z : Pr} {r : List Pr} (h : H q = some (.tup [.int (z.1 : Int), .int (z.2 : Int)])) (t : PrsAt H qs r) : PrsAt H (q :: qs) (z :: r)
theorem PrsAt.len {H : Hp} {qs : List Addr} {r : List Pr} (h : PrsAt H qs r) : qs.length = r.length := by
  induction h with
  | nil => rfl
  | cons _ _ ih => rw [List.length_cons, List.length_cons, ih]
theorem PrsAt.app {H : Hp} {qs ps : List Addr} {r q : List Pr} (h : PrsAt H qs r) (g : PrsAt H ps q) : PrsAt H (qs ++ ps) (r ++ q) := by
  induction h with
  | nil => exact g
  | cons a _ ih => exact .cons a ih
theorem PrsAt.get {H : Hp} {qs : List Addr} {r : List Pr} (h : PrsAt H qs r) {i : Nat} {q : Addr} (e : qs[i]? = some q) : ∃ z, r[i]? = some z ∧ H q = some (.tup [.int (z.1 : Int), .int (z.2 : Int)]) := by
  induction h generalizing i with
  | nil => cases e
  | cons a _ ih =>
    cases i with
    | zero =>
      cases e
      exact ⟨_, rfl, a⟩
    | succ i => exact ih e
theorem PrsAt.put {H H' : Hp} {qs : List Addr} {r : List Pr} (h : PrsAt H qs r) (k : ∀ q xs, H q = some (.tup xs) → H' q = some (.tup xs)) : PrsAt H' qs r := by
  induction h with
  | nil => exact .nil
  | cons a _ ih => exact .cons (k _ _ a) ih
/-- at a stands a list of these stretches -/
def RowAt (H : Hp) (a : Addr) (r : List Pr) : Prop := ∃ qs : List Addr, H a = some (.lst (qs.map V.ref)) ∧ PrsAt H qs r
theorem RowAt.nw {P a : Addr} {H H' : Hp} {r : List Pr} (h : RowAt H a r) (x : Nw P H H') : RowAt H' a r := by
  obtain ⟨qs, e, p⟩ := h
  exact ⟨qs, x.lst e, p.put fun q xs e => x.tup e⟩
theorem RowAt.ne {P a : Addr} {H : Hp} {r : List Pr} (h : RowAt H a r) (t : GxR.TabG H P) : a ≠ P := by
  obtain ⟨qs, e, p⟩ := h
  exact tab_ne t e (fun q z => by cases z)
def prDat (z : Pr) : PyData := .tuple [.int (z.1 : Int), .int (z.2 : Int)]
def rowDat (r : List Pr) : PyData := .list (r.map prDat)
theorem PrsAt.dp {K : PySem.W.Frag} {H : Hp} {qs : List Addr} {r : List Pr} (h : PrsAt H qs r) : DpAll K H (qs.map V.ref) (r.map prDat) := by
  induction h with
  | nil => exact .nil
  | cons a _ ih => exact .cons (.tup (SqT.of a) (.cons (.int _) (.cons (.int _) .nil))) ih
theorem RowAt.dp {K : PySem.W.Frag} {H : Hp} {a : Addr} {r : List Pr} (h : RowAt H a r) : Dp K H (.ref a) (rowDat r) := by
  obtain ⟨qs, e, p⟩ := h
  exact .lst (SqL.of e) p.dp
end LL
namespace LL
open PySem PySem.Spec PyProof.Rows L2
def within : V → Int → Int → Bool
  | .int i, lo, hi => decide (lo ≤ i) && decide (i ≤ hi)
  | _, _, _ => false
def spanV : V → V → Nat → Bool
  | .int b, z, most => within (.int b) 0 most && within z (b + 1) most
  | _, _, _ => false
/-- whether a thing is a stretch -/
inductive StB (K : PySem.W.Frag) (H : Hp) : V → Bool → Prop
  | other {x : V} (h : IsTup K H x false) : StB K H x false
  | wrong {q : Addr} {xs : List V} (h : H q = some (.tup xs)) (n : xs.length ≠ 2) : StB K H (.ref q) false
  | pair {q : Addr} {y z : V} (h : H q = some (.tup [y, z])) (ty : Thing K H y) (tz : Thing K H z) : StB K H (.ref q) (spanV y z 400)
theorem atT0 (x : V) (xs : List V) : atI (x :: xs) 0 = some x := atI_nat (j := 0) rfl
theorem atT1 (x y : V) (xs : List V) : atI (x :: y :: xs) 1 = some y := atI_nat (j := 1) rfl
/-! ### rows as data -/
theorem prDat_eqv (z w : Pr) : PyData.eqv (prDat z) (prDat w) = decide (z = w) := by
  obtain ⟨a, b⟩ := z
  obtain ⟨a', b'⟩ := w
  have e : PyData.eqv (prDat (a, b)) (prDat (a', b')) = (((a : Int) == (a' : Int)) && (((b : Int) == (b' : Int)) && true)) := by simp only [prDat, PyData.eqv, PyData.eqvAll]
  rw [e]
  by_cases h : ((a, b) : Pr) = (a', b')
  · cases h
    simp
  · rw [decide_eq_false h]
    by_cases h1 : a = a'
    · by_cases h2 : b = b'
      · exact absurd (by rw [h1, h2]) h
      · have q : ((b : Int) == (b' : Int)) = false := beq_eq_false_iff_ne.mpr (by omega)
        rw [q, Bool.false_and, Bool.and_false]
    · have q : ((a : Int) == (a' : Int)) = false := beq_eq_false_iff_ne.mpr (by omega)
      rw [q, Bool.false_and]
theorem prDats_eqv : ∀ r q : List Pr, PyData.eqvAll (r.map prDat) (q.map prDat) = decide (r = q)
  | [], [] => by simp [PyData.eqvAll]
  | [], _ :: _ => by simp [PyData.eqvAll]
  | _ :: _, [] => by simp [PyData.eqvAll]
  | z :: r, w :: q => by
    have ih := prDats_eqv r q
    simp only [List.map_cons, PyData.eqvAll]
    rw [ih, prDat_eqv, Bool.eq_iff_iff]
    simp
theorem rowDat_eqv (r q : List Pr) : PyData.eqv (rowDat r) (rowDat q) = decide (r = q) := by
  simp only [rowDat, PyData.eqv]
  exact prDats_eqv r q
theorem prDats_lay : ∀ r : List Pr, PyData.canLayAll0 (r.map prDat) = true
  | [] => by simp [PyData.canLayAll0]
  | z :: r => by simp [PyData.canLayAll0, PyData.canLay0, prDat, prDats_lay r]
theorem prDats_depth : ∀ r : List Pr, PyData.depthAll (r.map prDat) ≤ 1
  | [] => by simp [PyData.depthAll]
  | z :: r => by
    have h1 := prDats_depth r
    simp only [List.map_cons, PyData.depthAll, prDat, PyData.depth]
    omega
theorem rowDat_shaped (r : List Pr) : SeqAt.shaped (rowDat r) = true := by
  have h1 := prDats_depth r
  have h2 : PyData.depth (rowDat r) ≤ 64 := by
    simp only [rowDat, PyData.depth]
    omega
  show (PyData.canLay0 (rowDat r) && decide (PyData.depth (rowDat r) ≤ 64)) = true
  rw [Bool.and_eq_true]
  exact ⟨by simp only [rowDat, PyData.canLay0]; exact prDats_lay r, decide_eq_true h2⟩
/-- all items of a row are stretches -/
theorem spanV_pr {z : Pr} (h : z.1 < z.2 ∧ z.2 ≤ 400) : spanV (.int (z.1 : Int)) (.int (z.2 : Int)) 400 = true := by
  simp only [spanV, within, Bool.and_eq_true, decide_eq_true_eq]
  omega
inductive StBs (K : PySem.W.Frag) (H : Hp) : List V → List Bool → Prop
  | nil : StBs K H [] []
  | cons {x : V} {b : Bool} {xs : List V} {bs : List Bool} (h : StB K H x b) (t : StBs K H xs bs) : StBs K H (x :: xs) (b :: bs)
theorem StBs.get {K : PySem.W.Frag} {H : Hp} {xs : List V} {bs : List Bool} (h : StBs K H xs bs) {i : Nat} {x : V} (e : xs[i]? = some x) : ∃ b, bs[i]? = some b ∧ StB K H x b := by
  induction h generalizing i with
  | nil => cases e
  | cons a _ ih =>
    cases i with
    | zero =>
      cases e
      exact ⟨_, rfl, a⟩
    | succ i => exact ih e
theorem StBs.len {K : PySem.W.Frag} {H : Hp} {xs : List V} {bs : List Bool} (h : StBs K H xs bs) : xs.length = bs.length := by
  induction h with
  | nil => rfl
  | cons _ _ ih => rw [List.length_cons, List.length_cons, ih]
theorem StB.pr {K : PySem.W.Frag} {H : Hp} {q : Addr} {z : Pr} (h : H q = some (.tup [.int (z.1 : Int), .int (z.2 : Int)])) (v : z.1 < z.2 ∧ z.2 ≤ 400) : StB K H (.ref q) true := by
  have x := StB.pair (K := K) h (.int _) (.int _)
  rw [spanV_pr v] at x
  exact x
theorem PrsAt.sts {K : PySem.W.Frag} {H : Hp} {qs : List Addr} {r : List Pr} (h : PrsAt H qs r) (v : Valid r) : StBs K H (qs.map V.ref) (r.map fun _ => true) := by
  induction h with
  | nil => exact .nil
  | cons a _ ih => exact .cons (StB.pr a (v _ List.mem_cons_self)) (ih fun z hz => v z (List.mem_cons_of_mem _ hz))
/-- a thing that is asked whether it is a tidy row -/
inductive RunsB (K : PySem.W.Frag) (H : Hp) : V → Bool → Prop
  | other {x : V} (h : IsLst K H x false) : RunsB K H x false
  | wrong {a : Addr} {xs : List V} {bs : List Bool} (h : H a = some (.lst xs)) (s : StBs K H xs bs) (n : bs.all id = false) : RunsB K H (.ref a) false
  | row {a : Addr} {r : List Pr} (h : RowAt H a r) (v : Valid r) : RunsB K H (.ref a) (decide (Tidy r))
theorem StB.keep {K : PySem.W.Frag} {H H' : Hp} {x : V} {b : Bool} (k : Keep H H') (h : StB K H x b) : StB K H' x b := by
  cases h with
  | other h => exact .other (h.keep k)
  | wrong h e => exact .wrong (k _ _ (fun q z => by cases z) h) e
  | pair h a b => exact .pair (k _ _ (fun q z => by cases z) h) (a.keep k) (b.keep k)
theorem StBs.keep {K : PySem.W.Frag} {H H' : Hp} {xs : List V} {bs : List Bool} (k : Keep H H') (h : StBs K H xs bs) : StBs K H' xs bs := by
  induction h with
  | nil => exact .nil
  | cons a _ ih => exact .cons (a.keep k) ih
theorem RowAt.keep {a : Addr} {H H' : Hp} {r : List Pr} (k : Keep H H') (h : RowAt H a r) : RowAt H' a r := by
  obtain ⟨qs, e, p⟩ := h
  exact ⟨qs, k _ _ (fun q z => by cases z) e, p.put fun q xs e => k _ _ (fun q z => by cases z) e⟩
theorem PrsAt.snoc {H : Hp} : ∀ {qs : List Addr} {r : List Pr} {z : Pr}, PrsAt H qs (r ++ [z]) → ∃ ps q, qs = ps ++ [q] ∧ PrsAt H ps r ∧ H q = some (.tup [.int (z.1 : Int), .int (z.2 : Int)])
  | [], [], _, h => nomatch h
  | [], _ :: _, _, h => nomatch h
  | q :: qs, [], z, h => by
    cases h with
    | cons a t =>
      cases t
      exact ⟨[], q, rfl, .nil, a⟩
  | q :: qs, y :: r, z, h => by
    cases h with
    | cons a t =>
      obtain ⟨ps, q', rfl, p, e⟩ := PrsAt.snoc t
      exact ⟨q :: ps, q', rfl, .cons a p, e⟩
theorem has_below {r : List Pr} {i : Nat} (v : Valid r) (h : ∀ n, has r n = true → n < i) : ∀ z ∈ r, z.2 ≤ i := fun z hz => by
  obtain ⟨a, b⟩ := v z hz
  have : has r (z.2 - 1) = true := List.any_eq_true.mpr ⟨z, hz, by rw [decide_eq_true (show z.1 ≤ z.2 - 1 by omega), decide_eq_true (show z.2 - 1 < z.2 by omega)]; rfl⟩
  have := h _ this
  omega
theorem snoc_of {r : List Pr} (h : r ≠ []) : ∃ q z, r = q ++ [z] := ⟨r.dropLast, r.getLast h, (List.dropLast_concat_getLast h).symm⟩
theorem TidyFrom.last : ∀ {r : List Pr} {b : Nat} {z y : Pr}, TidyFrom b (r ++ [z]) → y ∈ r ++ [z] → y.2 ≤ z.2
  | [], _, z, y, _, h => by
    rw [List.mem_singleton.mp h]
    exact Nat.le_refl _
  | w :: r, b, z, y, ⟨h1, h2, h3, h4⟩, h => by
    rcases List.mem_cons.mp h with rfl | h
    · obtain ⟨v1, _⟩ := h4.valid z (List.mem_append_right _ List.mem_cons_self)
      have : has (r ++ [z]) z.1 = true := by rw [has_app, has_cons, decide_eq_true (Nat.le_refl _), decide_eq_true v1]; simp
      have := (h4.low this).1
      omega
    · exact TidyFrom.last (r := r) h4 h
end LL
namespace LL
open PySem PySem.Spec PyProof.Rows L2
/-- a law's box: what is left of the cell, its rest, a count -/
def BoxO (o : HO) : Prop := ∃ x b c : Int, o = .lst [.int x, .int b, .int c] ∧ 0 ≤ x ∧ 0 ≤ b ∧ b < 4294967296
/-- the box at a may have changed, the rest is kept -/
structure Kept (a : Addr) (H H' : Hp) : Prop where
  box : ∃ o, H' a = some o ∧ BoxO o
  old : ∀ b o, b ≠ a → H b = some o → H' b = some o
theorem Kept.upd {a : Addr} {H : Hp} {o : HO} (h : BoxO o) : Kept a H (upd H a o) := ⟨⟨o, upd_same, h⟩, fun b _ n e => by rw [upd_ne n]; exact e⟩
theorem Kept.trans {a : Addr} {H H1 H2 : Hp} (x : Kept a H H1) (y : Kept a H1 H2) : Kept a H H2 := ⟨y.box, fun b o n e => y.old b o n (x.old b o n e)⟩
theorem Kept.refl {a : Addr} {H : Hp} (h : ∃ o, H a = some o ∧ BoxO o) : Kept a H H := ⟨h, fun _ _ _ e => e⟩
/-- a new object more -/
theorem Kept.new {a p : Addr} {H H1 : Hp} {u : HO} (x : Kept a H H1) (hp : H1 p = none) : Kept a H (L2.upd H1 p u) := by
  obtain ⟨⟨o, e, b⟩, old⟩ := x
  exact ⟨⟨o, by rw [upd_ne (ne_of_none e hp)]; exact e, b⟩, fun c v n q => by rw [upd_ne (ne_of_none (old c v n q) hp)]; exact old c v n q⟩
theorem at0 (x y z : V) : atI [x, y, z] 0 = some x := atI_nat (j := 0) rfl
theorem at1 (x y z : V) : atI [x, y, z] 1 = some y := atI_nat (j := 1) rfl
theorem at2 (x y z : V) : atI [x, y, z] 2 = some z := atI_nat (j := 2) rfl
theorem Kept.tab {a P : Addr} {H H' : Hp} (x : Kept a H H') (b : ∃ o, H a = some o ∧ BoxO o) (t : GxR.TabG H P) : GxR.TabG H' P := by
  obtain ⟨o, e, x0, y0, z0, rfl, _⟩ := b
  obtain ⟨ps, e2, t2⟩ := t
  exact ⟨ps, x.old P _ (fun z => by rw [z, e] at e2; cases e2) e2, t2⟩
/-- a box that is new since H0 -/
theorem Nw.kept {a P : Addr} {H0 H H' : Hp} (n : Nw P H0 H) (h : H0 a = none) (b : ∃ o, H a = some o ∧ BoxO o) (x : Kept a H H') : Nw P H0 H' :=
  ⟨n.was, x.tab b n.tab, fun c o m e => x.old c o (fun z => by rw [z, h] at e; cases e) (n.old c o m e)⟩
theorem RowAt.kept {a b : Addr} {H H' : Hp} {r : List Pr} (h : RowAt H b r) (bx : ∃ o, H a = some o ∧ BoxO o) (x : Kept a H H') : RowAt H' b r := by
  obtain ⟨o, e, x0, y0, z0, rfl, _⟩ := bx
  obtain ⟨qs, e1, p⟩ := h
  refine ⟨qs, x.old b _ (fun z => ?_) e1, p.put fun q xs e2 => x.old q _ (fun z => by rw [z, e] at e2; cases e2) e2⟩
  rw [z, e] at e1
  have := congrArg (fun u : Option HO => match u with | some (.lst (v :: _)) => some v | _ => none) e1
  cases qs with
  | nil => cases this
  | cons q qs => cases this
/-- nothing that stood is changed -/
def Exd (H H' : Hp) : Prop := ∀ b o, H b = some o → H' b = some o
theorem Exd.refl (H : Hp) : Exd H H := fun _ _ e => e
theorem Exd.trans {H H1 H2 : Hp} (x : Exd H H1) (y : Exd H1 H2) : Exd H H2 := fun b o e => y b o (x b o e)
theorem Exd.new {p : Addr} {H H1 : Hp} {u : HO} (x : Exd H H1) (hp : H1 p = none) : Exd H (L2.upd H1 p u) := fun b o e => by
  rw [upd_ne (ne_of_none (x b o e) hp)]
  exact x b o e
theorem Exd.put {p : Addr} {H H1 : Hp} {u : HO} (x : Exd H H1) (hp : H p = none) : Exd H (L2.upd H1 p u) := fun b o e => by
  rw [upd_ne (ne_of_none e hp)]
  exact x b o e
theorem Exd.nw {P : Addr} {H H' : Hp} (x : Exd H H') (t : GxR.TabG H P) : Nw P H H' := by
  obtain ⟨ps, e, t2⟩ := id t
  exact ⟨t, ⟨ps, x P _ e, t2⟩, fun b o _ e => x b o e⟩
theorem Exd.row {a : Addr} {H H' : Hp} {r : List Pr} (x : Exd H H') (h : RowAt H a r) : RowAt H' a r := h.keep fun b o _ e => x b o e
theorem Exd.kept {a : Addr} {H H' : Hp} (x : Exd H H') (b : ∃ o, H a = some o ∧ BoxO o) : Kept a H H' := by
  obtain ⟨o, e, bo⟩ := b
  exact ⟨⟨o, x a o e, bo⟩, fun c u _ q => x c u q⟩
theorem Exd.free {a : Addr} {H H' : Hp} (x : Exd H H') (e : H' a = none) : H a = none := by
  cases q : H a with
  | none => rfl
  | some o =>
    rw [x a o q] at e
    cases e
theorem Kept.free {a b : Addr} {H H' : Hp} (x : Kept a H H') (e : H' b = none) : H b = none := by
  cases q : H b with
  | none => rfl
  | some o =>
    by_cases z : b = a
    · obtain ⟨o', e', _⟩ := x.box
      rw [z, e'] at e
      cases e
    · rw [x.old b o z q] at e
      cases e
/-! ### four hundred marks -/
def marks (S : Nat → Bool) : List V := (List.range 400).map fun n => V.bl (S n)
theorem marks_len (S : Nat → Bool) : (marks S).length = 400 := by unfold marks; rw [List.length_map, List.length_range]
theorem marks_get (S : Nat → Bool) {n : Nat} (h : n < 400) : (marks S)[n]? = some (.bl (S n)) := by
  unfold marks
  rw [List.getElem?_map, List.getElem?_range h]
  rfl
theorem marks_at (S : Nat → Bool) {n : Nat} (h : n < 400) : atI (marks S) (n : Int) = some (.bl (S n)) := atI_nat (marks_get S h)
theorem flat_rep (n : Nat) (x : V) : (List.replicate n [x]).flatten = List.replicate n x := by
  induction n with
  | zero => rfl
  | succ n ih => rw [List.replicate_succ, List.flatten_cons, ih]; rfl
theorem marks_none : (List.replicate (400 : Int).toNat [V.bl false]).flatten = marks fun _ => false := by
  rw [flat_rep]
  unfold marks
  rw [List.map_const', List.length_range]
  rfl
theorem marks_set (S : Nat → Bool) (n : Nat) : (marks S).set n (V.bl true) = marks fun i => S i || decide (i = n) := by
  apply List.ext_getElem?
  intro i
  by_cases l : i < 400
  · rw [marks_get _ l, List.getElem?_set]
    by_cases e : n = i
    · subst e
      rw [if_pos rfl, if_pos (by rw [marks_len]; exact l), decide_eq_true rfl, Bool.or_true]
    · rw [if_neg e, marks_get _ l, decide_eq_false (fun z => e z.symm), Bool.or_false]
  · rw [List.getElem?_eq_none (by rw [List.length_set, marks_len]; omega), List.getElem?_eq_none (by rw [marks_len]; omega)]
theorem marks_ext {S T : Nat → Bool} (h : ∀ n, n < 400 → S n = T n) : marks S = marks T := by
  apply List.ext_getElem?
  intro i
  by_cases l : i < 400
  · rw [marks_get _ l, marks_get _ l, h i l]
  · rw [List.getElem?_eq_none (by rw [marks_len]; omega), List.getElem?_eq_none (by rw [marks_len]; omega)]
theorem marks_snoc (S : Nat → Bool) (n : Nat) : ((List.range (n + 1)).map fun i => V.bl (S i)) = ((List.range n).map fun i => V.bl (S i)) ++ [.bl (S n)] := by
  rw [List.range_succ, List.map_append]
  rfl
end LL
namespace LL
open PySem PySem.Spec PyProof.Rows L2
/-! ### what repr asks of data -/
/-- data of at most W bits and places, its whole numbers short -/
structure Sm (d : PyData) (k W : Nat) : Prop where
  lay : d.canLay0 = true
  sh : d.showable = true
  shrt : d.intsShort 13 = true
  dep : d.depth ≤ k
  wt : d.weight ≤ W
structure SmAll (ds : List PyData) (k W : Nat) : Prop where
  lay : PyData.canLayAll0 ds = true
  sh : PyData.showableAll ds = true
  shrt : PyData.intsShortAll 13 ds = true
  dep : PyData.depthAll ds ≤ k
  wt : PyData.weightAll ds ≤ W
theorem smAll_nil : SmAll [] 0 0 := ⟨rfl, rfl, rfl, Nat.le_refl _, Nat.le_refl _⟩
theorem SmAll.cons {d : PyData} {ds : List PyData} {k l W U : Nat} (h : Sm d k W) (t : SmAll ds l U) : SmAll (d :: ds) (max k l) (W + 1 + U) := by
  refine ⟨?_, ?_, ?_, ?_, ?_⟩
  · simp only [PyData.canLayAll0, h.lay, t.lay, Bool.and_self]
  · simp only [PyData.showableAll, h.sh, t.sh, Bool.and_self]
  · simp only [PyData.intsShortAll, h.shrt, t.shrt, Bool.and_self]
  · simp only [PyData.depthAll]
    have := h.dep
    have := t.dep
    omega
  · simp only [PyData.weightAll]
    have := h.wt
    have := t.wt
    omega
theorem SmAll.list {ds : List PyData} {k W : Nat} (t : SmAll ds k W) : Sm (.list ds) (k + 1) W :=
  ⟨by simp only [PyData.canLay0]; exact t.lay, by simp only [PyData.showable]; exact t.sh, by simp only [PyData.intsShort]; exact t.shrt, by simp only [PyData.depth]; have := t.dep; omega, by simp only [PyData.weight]; exact t.wt⟩
theorem SmAll.tuple {ds : List PyData} {k W : Nat} (t : SmAll ds k W) : Sm (.tuple ds) (k + 1) W :=
  ⟨by simp only [PyData.canLay0]; exact t.lay, by simp only [PyData.showable]; exact t.sh, by simp only [PyData.intsShort]; exact t.shrt, by simp only [PyData.depth]; have := t.dep; omega, by simp only [PyData.weight]; exact t.wt⟩
theorem Sm.mono {d : PyData} {k l W U : Nat} (h : Sm d k W) (a : k ≤ l) (b : W ≤ U) : Sm d l U := ⟨h.lay, h.sh, h.shrt, Nat.le_trans h.dep a, Nat.le_trans h.wt b⟩
theorem SmAll.mono {d : List PyData} {k l W U : Nat} (h : SmAll d k W) (a : k ≤ l) (b : W ≤ U) : SmAll d l U := ⟨h.lay, h.sh, h.shrt, Nat.le_trans h.dep a, Nat.le_trans h.wt b⟩
theorem smAll_of {ds : List PyData} {k W : Nat} (h : ∀ d ∈ ds, Sm d k W) : SmAll ds k ((W + 1) * ds.length) := by
  induction ds with
  | nil => exact smAll_nil.mono (Nat.zero_le _) (Nat.zero_le _)
  | cons d ds ih =>
    refine ((h d List.mem_cons_self).mono (Nat.le_refl _) (Nat.le_refl _) |> fun x => SmAll.cons x (ih fun y hy => h y (List.mem_cons_of_mem _ hy))).mono (by omega) ?_
    rw [List.length_cons, Nat.mul_succ]
    omega
theorem short_nat : ∀ n : Nat, n < 1001 → (PyData.shown (.int (n : Int))).length ≤ 13 := by decide +kernel
theorem bits_nat : ∀ n : Nat, n < 1001 → (PyData.weight (.int (n : Int))) ≤ 10 ∧ ((n : Int)).natAbs.log2 < 1920 := by decide +kernel
theorem sm_nat {n : Nat} (h : n ≤ 1000) : Sm (.int (n : Int)) 0 10 :=
  ⟨by simp only [PyData.canLay0], by simp only [PyData.showable]; exact decide_eq_true (bits_nat n (by omega)).2, by simp only [PyData.intsShort]; exact decide_eq_true (short_nat n (by omega)), by simp only [PyData.depth]; exact Nat.le_refl _, (bits_nat n (by omega)).1⟩
theorem sm_pr {z : Pr} (h : z.1 < z.2 ∧ z.2 ≤ 400) : Sm (prDat z) 1 22 :=
  (((sm_nat (by omega)).mono (Nat.le_refl _) (Nat.le_refl _) |> fun a => SmAll.cons a (SmAll.cons (sm_nat (n := z.2) (by omega)) smAll_nil)).tuple).mono (by decide) (by decide)
theorem sm_row {r : List Pr} (v : Valid r) (l : r.length ≤ 400) : Sm (rowDat r) 2 9200 := by
  have := (smAll_of (ds := r.map prDat) (k := 1) (W := 22) fun d hd => by
    obtain ⟨z, hz, rfl⟩ := List.mem_map.mp hd
    exact sm_pr (v z hz)).list
  refine this.mono (by decide) ?_
  rw [List.length_map]
  omega
theorem Sm.rep {d : PyData} {k W : Nat} (h : Sm d k W) (hk : k ≤ 60) (hW : W ≤ 1048576) : d.showable = true ∧ d.hasDict = false ∧ d.depth ≤ 60 ∧ d.shown.length ≤ sizeLine := by
  refine ⟨h.sh, PyData.hasDict_of_canLay d h.lay, Nat.le_trans h.dep hk, ?_⟩
  refine PyData.shown_fits (B := 13) (by decide) (by decide) (PyData.leavesShort_of_canLay0 13 d h.lay h.shrt) ?_
  have e : (2 : Nat) ^ 20 = 1048576 := by decide
  have := h.wt
  omega
theorem Sm.shaped {d : PyData} {k W : Nat} (h : Sm d k W) (hk : k ≤ 60) : SeqAt.shaped d = true := by
  show (d.canLay0 && decide (d.depth ≤ 64)) = true
  rw [h.lay, Bool.true_and]
  have := h.dep
  exact decide_eq_true (by omega)
/-- repr of such data -/
theorem call_reprM {X : Cx} (guard : X.A.guards = some []) {k : Nat} (room : Room k X.A) : CallR X (.builtin "repr") (fun xs H Q => ∃ v d, xs = [v] ∧ Dp X.K H v d ∧ isDisplay d = true ∧ Sm d 60 1048576 ∧ Q (.str d.shown) H) := by
  intro pins s σ H xs us Q I r ⟨v, d, e, dp, di, sm, q⟩
  obtain ⟨a, b, c, l⟩ := sm.rep (Nat.le_refl _) (Nat.le_refl _)
  exact call_reprD guard room pins s σ H xs us Q I r ⟨v, d, e, dp, di, a, b, c, l, q⟩
/-! ### lists of rows -/
inductive RowsAt (H : Hp) : List Addr → List (List Pr) → Prop
  | nil : RowsAt H [] []
  | cons {a : Addr} {as : List Addr} {r : List Pr} {rs : List (List Pr)} (h : RowAt H a r) (t : RowsAt H as rs) : RowsAt H (a :: as) (r :: rs)
theorem RowsAt.dp {K : PySem.W.Frag} {H : Hp} {as : List Addr} {rs : List (List Pr)} (h : RowsAt H as rs) : DpAll K H (as.map V.ref) (rs.map rowDat) := by
  induction h with
  | nil => exact .nil
  | cons a _ ih => exact .cons a.dp ih
theorem RowsAt.keep {H H' : Hp} {as : List Addr} {rs : List (List Pr)} (k : Keep H H') (h : RowsAt H as rs) : RowsAt H' as rs := by
  induction h with
  | nil => exact .nil
  | cons a _ ih => exact .cons (a.keep k) ih
def rowsDat (rs : List (List Pr)) : PyData := .list (rs.map rowDat)
theorem rows_dp {K : PySem.W.Frag} {H : Hp} {p : Addr} {as : List Addr} {rs : List (List Pr)} (e : H p = some (.lst (as.map V.ref))) (h : RowsAt H as rs) : Dp K H (.ref p) (rowsDat rs) := .lst (SqL.of e) h.dp
theorem sm_rows {rs : List (List Pr)} (h : ∀ r ∈ rs, Valid r ∧ r.length ≤ 400) (l : rs.length ≤ 100) : Sm (rowsDat rs) 60 1048576 := by
  have := (smAll_of (ds := rs.map rowDat) (k := 2) (W := 9200) fun d hd => by
    obtain ⟨r, hr, rfl⟩ := List.mem_map.mp hd
    exact sm_row (h r hr).1 (h r hr).2).list
  refine this.mono (by decide) ?_
  rw [List.length_map]
  omega
theorem eqvs_rows : ∀ rs qs : List (List Pr), PyData.eqvAll (rs.map rowDat) (qs.map rowDat) = decide (rs = qs)
  | [], [] => by simp [PyData.eqvAll]
  | [], _ :: _ => by simp [PyData.eqvAll]
  | _ :: _, [] => by simp [PyData.eqvAll]
  | r :: rs, q :: qs => by
    have ih := eqvs_rows rs qs
    simp only [List.map_cons, PyData.eqvAll]
    rw [ih, rowDat_eqv, Bool.eq_iff_iff]
    simp
theorem rowsDat_eqv (rs qs : List (List Pr)) : PyData.eqv (rowsDat rs) (rowsDat qs) = decide (rs = qs) := by
  simp only [rowsDat, PyData.eqv]
  exact eqvs_rows rs qs
theorem RowAt.upd {H : Hp} {a d : Addr} {r : List Pr} {xs ys : List V} (h : RowAt H a r) (n : a ≠ d) (e : H d = some (.lst xs)) : RowAt (L2.upd H d (.lst ys)) a r := by
  obtain ⟨qs, e1, p⟩ := h
  exact ⟨qs, by rw [upd_ne n]; exact e1, p.put fun q zs e2 => by rw [upd_ne (ne_of e2 e (by intro z; cases z))]; exact e2⟩
theorem RowsAt.upd {H : Hp} {as : List Addr} {d : Addr} {rs : List (List Pr)} {xs ys : List V} (h : RowsAt H as rs) (n : ∀ a ∈ as, a ≠ d) (e : H d = some (.lst xs)) : RowsAt (L2.upd H d (.lst ys)) as rs := by
  induction h with
  | nil => exact .nil
  | cons a _ ih => exact .cons (a.upd (n _ List.mem_cons_self) e) (ih fun a ha => n a (List.mem_cons_of_mem _ ha))
theorem RowsAt.app {H : Hp} {as bs : List Addr} {rs qs : List (List Pr)} (h : RowsAt H as rs) (g : RowsAt H bs qs) : RowsAt H (as ++ bs) (rs ++ qs) := by
  induction h with
  | nil => exact g
  | cons a _ ih => exact .cons a ih
theorem Exd.rows {H H' : Hp} {as : List Addr} {rs : List (List Pr)} (x : Exd H H') (h : RowsAt H as rs) : RowsAt H' as rs := h.keep fun b o _ e => x b o e
theorem marks_ne {H : Hp} {d x : Addr} {xs : List V} {S : Nat → Bool} (e1 : H d = some (.lst xs)) (e2 : H x = some (.lst (marks S))) (n : xs.length < 400) : d ≠ x := fun z => by
  rw [z, e2] at e1
  injection e1 with e1
  injection e1 with e1
  rw [← e1, marks_len] at n
  exact Nat.lt_irrefl _ n
/-- [f(k) for k in range(400)], True or False each -/
theorem lc_marks {j : Nat} {te : TE} {vs : List Nat} {σ : L2.St} {H1 : Hp} {D : Addr} {Qd : Hp → Prop} (f : Nat → Bool) (hw : ∀ v : V, wipe ((wipe σ vs).set j (some v)) vs = wipe σ vs)
    (hs : ∀ (i : Nat) (H' : Hp) (Q : VK), i < 400 → H' = upd H1 D (.lst ((List.range i).map fun n => V.bl (f n))) → Q (.bl (f i)) H' → te ((wipe σ vs).set j (some (.int ((0 : Int) + (i : Int))))) H' Q) (hd : Qd (upd H1 D (.lst (marks f)))) :
    ∃ W : Nat → Nat → Hp → Prop, (∃ m, W 0 m (upd H1 D (.lst []))) ∧ ∀ i m H, W i m H →
      ((Itr 0 (400 : Int).toNat).stop i H ∧ Qd H) ∨ ((Itr 0 (400 : Int).toNat).go i H ∧ ∃ Nx : Hp → Prop, (∀ H', Nx H' → ∃ m', m' < m ∧ W (i + 1) m' H') ∧ ∀ x H', (Itr 0 (400 : Int).toNat).yld i H x H' → gName j x (wipe σ vs) H' fun σ2 H2 => wipe σ2 vs = wipe σ vs ∧ tYes σ2 H2 fun b H3 =>
        if b = true then te σ2 H3 fun y H4 => ∃ acc, H4 D = some (.lst acc) ∧ acc.length < sizeLine ∧ Nx (upd H4 D (.lst (acc ++ [y]))) else Nx H3) := by
  refine lc_range (lo := 0) (fun i H' => H' = upd H1 D (.lst ((List.range i).map fun n => V.bl (f n)))) rfl ?_ ?_
  · intro i H' hi e
    have hi : i < 400 := hi
    refine ⟨hw _, ?_⟩
    refine hs i H' (fun y H4 => ∃ acc, H4 D = some (.lst acc) ∧ acc.length < sizeLine ∧ upd H4 D (.lst (acc ++ [y])) = upd H1 D (.lst ((List.range (i + 1)).map fun n => V.bl (f n)))) hi e ⟨_, by rw [e]; exact upd_same, ?_, ?_⟩
    · rw [List.length_map, List.length_range]
      have := PySem.sizeLine_eq
      omega
    · rw [e, upd_upd, marks_snoc]
  · intro H' e
    have e : H' = upd H1 D (.lst (marks f)) := e
    rw [e]
    exact hd
theorem RowsAt.kept {a : Addr} {H H' : Hp} {as : List Addr} {rs : List (List Pr)} (h : RowsAt H as rs) (bx : ∃ o, H a = some o ∧ BoxO o) (x : Kept a H H') : RowsAt H' as rs := by
  induction h with
  | nil => exact .nil
  | cons r _ ih => exact .cons (r.kept bx x) ih
theorem RowsAt.nw {P : Addr} {H H' : Hp} {as : List Addr} {rs : List (List Pr)} (h : RowsAt H as rs) (x : Nw P H H') : RowsAt H' as rs := h.keep x.keep
theorem sqL_nw {P : Addr} {H H' : Hp} {K : PySem.W.Frag} {a : Addr} {xs : List V} (x : Nw P H H') (h : SqL K H a xs) : SqL K H' a xs := by
  rcases h with h | h
  · refine .inl ?_
    rcases h with h | ⟨o, h⟩
    · exact .inl (x.keep _ _ (fun q z => by cases z) h)
    · exact .inr ⟨o, x.keep _ _ (fun q z => by cases z) h⟩
  · exact .inr h
/-- [e for x in range(lo, .., c)] -/
theorem lc_step {lo c : Int} {n : Nat} {g : TG} {tt : TT} {te : TE} {vs : List Nat} {σ : L2.St} {H1 : Hp} {D : Addr} {Qd : Hp → Prop} (J : Nat → Hp → Prop) (first : J 0 (upd H1 D (.lst [])))
    (turn : ∀ i H, i < n → J i H → g (.int (lo + (i : Nat) * c)) (wipe σ vs) H fun σ2 H2 => wipe σ2 vs = wipe σ vs ∧ tt σ2 H2 fun b H3 =>
      if b = true then te σ2 H3 fun y H4 => ∃ acc, H4 D = some (.lst acc) ∧ acc.length < sizeLine ∧ J (i + 1) (upd H4 D (.lst (acc ++ [y]))) else J (i + 1) H3) (last : ∀ H, J n H → Qd H) :
    ∃ W : Nat → Nat → Hp → Prop, (∃ m, W 0 m (upd H1 D (.lst []))) ∧ ∀ i m H, W i m H →
      ((Itc lo c n).stop i H ∧ Qd H) ∨ ((Itc lo c n).go i H ∧ ∃ Nx : Hp → Prop, (∀ H', Nx H' → ∃ m', m' < m ∧ W (i + 1) m' H') ∧ ∀ x H', (Itc lo c n).yld i H x H' → g x (wipe σ vs) H' fun σ2 H2 => wipe σ2 vs = wipe σ vs ∧ tt σ2 H2 fun b H3 =>
        if b = true then te σ2 H3 fun y H4 => ∃ acc, H4 D = some (.lst acc) ∧ acc.length < sizeLine ∧ Nx (upd H4 D (.lst (acc ++ [y]))) else Nx H3) := by
  refine ⟨fun i m H => m = n - i ∧ i ≤ n ∧ J i H, ⟨n, by simp, Nat.zero_le _, first⟩, ?_⟩
  rintro i m H ⟨rfl, le, j⟩
  rcases Nat.lt_or_ge i n with lt | ge
  · refine .inr ⟨lt, J (i + 1), fun H' j' => ⟨n - (i + 1), by omega, rfl, lt, j'⟩, fun x H' y => ?_⟩
    obtain ⟨rfl, rfl⟩ := y
    exact turn i _ lt j
  · obtain rfl : i = n := by omega
    exact .inl ⟨Nat.le_refl _, last H j⟩
end LL
namespace LL
open PySem PySem.Spec PyProof.Rows L2
/-! ### list(reversed(x)), x a list -/
section
variable {prog : Program} {w : World} {A : Around} {E : Value → Shared → Prop} {s : Shared} {it l : Addr} {ys : Array Value}
/-- what a list drew from such an iterator -/
def BackOf (ys acc : Array Value) : Prop := ItemsOf (fun i v => ys[ys.size - 1 - i]? = some v) acc ys.size
theorem back_extend {Rr : Result → Shared → Prop} (calm : A.handled = none) (ri : s.heap.IsRevIter it l ((ys.size : Int) - 1)) (li : s.heap.IsList l ys) (ne : l ≠ it) (few : ys.size ≤ sizeLine)
    (S : Addr) (Si : S ≠ it) (Sl : S ≠ l) (res : Value) (c0 : Nat) (eS : s.heap.get? S = some { cls := .type "list", data := .seq #[] c0 })
    (fin : ∀ h' tk acc c', (∀ b o, b ≠ S → b ≠ it → s.heap.get? b = some o → h'.get? b = some o) → h'.get? S = some { cls := .type "list", dict := none, data := .seq acc c', slots := #[] } → BackOf ys acc →
      Rr (.ok (.ret res)) { s with heap := h', toks := tk }) :
    wpAny (model prog w) A.in1 (Builtin.List.listExtendWith (.ref S) (.ref it) res)
      (fun z s' => match z with | .done f => Rr (.ok f) s' | .again c' => c'.quiet = true ∧ codeAny (model prog w) A c' Rr s') (fun e s' => Rr (.error e) s') s := by
  have W := (Walks.listRev (prog := prog) (w := w) (A := A.in1) calm it l ne ys).toS
  have notIn : S ∉ [it, l] := by
    simp only [List.mem_cons, List.not_mem_nil, or_false, not_or]
    exact ⟨Si, Sl⟩
  have ty : s.TypeIs (.ref it) "list_reverseiterator" := ri.typeIs
  have other : Builtin.List.listSameRef (.ref S) (.ref it) = false := by simp [Builtin.List.listSameRef, Si]
  have e0 : ((ys.size : Nat) : Int) - 1 - ((0 : Nat) : Int) = (ys.size : Int) - 1 := by omega
  unfold Builtin.List.listExtendWith
  refine wpAny_bind (wpAny_typeOf ty ?_)
  rw [if_neg (by rw [other]; decide)]
  refine wpAny_bind (wpAny_pyIter_revIter ri ?_)
  refine wpAny_bind (wpAny_holding ?_)
  unfold Builtin.List.listLengthHint
  refine wpAny_bind (wpAny_specialOf ty RT.nolen_lri ?_)
  refine (show wpAny _ A.in1 (specialOf (Value.ref it) (Str.ofString "__length_hint__") >>= _) _ _ _ from ?_)
  refine wpAny_bind (wpAny_specialOf ty RT.hint_lri ?_)
  generalize hid : ("list_reverseiterator.__length_hint__" : String) = id0
  wp_delta
  rw [show splitId id0 = some ("list_reverseiterator", "__length_hint__") from by subst hid; decide +kernel]
  subst hid
  refine wpAny_bind (wpAny_isInstance (b := true) ty (by rw [isSubtype_type]; kernel_rfl) ?_)
  refine wpAny_pure ?_
  rw [if_neg (by decide)]
  refine wpAny_pure ⟨plainId_quiet F.plain_extend_loop _, codeAny_extend_loopS W few _ notIn _ ys.size 0 _ _ _ rfl (Nat.zero_le _) ⟨Nat.zero_le _, by rw [e0]; exact ri, li⟩ eS (ItemsOf.nil _) fun s' acc c' mv eS' got => ?_⟩
  rw [Moved.eq_with mv]
  refine fin s'.heap s'.toks acc c' (fun b o n1 n2 e => mv.heap b o (fun m => ?_) e) eS' got
  rcases List.mem_cons.mp m with q | m
  · exact n1 q
  · exact n2 (List.mem_singleton.mp m)
theorem back_init {Rr : Result → Shared → Prop} (calm : A.handled = none) (ri : s.heap.IsRevIter it l ((ys.size : Int) - 1)) (li : s.heap.IsList l ys) (ne : l ≠ it) (few : ys.size ≤ sizeLine)
    (S : Addr) (Si : S ≠ it) (Sl : S ≠ l) (eS : s.heap.get? S = some { cls := .type "list", data := .seq #[] })
    (fin : ∀ h' tk acc c', (∀ b o, b ≠ S → b ≠ it → s.heap.get? b = some o → h'.get? b = some o) → h'.get? S = some { cls := .type "list", dict := none, data := .seq acc c', slots := #[] } → BackOf ys acc →
      Rr (.ok (.ret .none)) { s with heap := h', toks := tk }) :
    wpAny (model prog w) A.in1 (Builtin.«list.__init__» ⟨[.ref S, .ref it], []⟩)
      (fun z s' => match z with | .done f => Rr (.ok f) s' | .again c' => c'.quiet = true ∧ codeAny (model prog w) A c' Rr s') (fun e s' => Rr (.error e) s') s := by
  refine (show wpAny _ _ (do let old ← Builtin.List.listItems (.ref S); Builtin.List.listUpdate (.ref S) (fun _ => #[]); letGo old.toList.reverse; Builtin.List.listExtendWith (.ref S) (.ref it) .none) _ _ s from ?_)
  refine wpAny_bind ?_
  unfold Builtin.List.listItems
  refine wpAny_bind (wpAny_seqItems eS rfl (wpAny_pure ?_))
  refine (show wpAny _ _ (updateSeq S (fun _ => #[]) >>= fun _ => letGo (#[] : Array Value).toList.reverse >>= fun _ => Builtin.List.listExtendWith (.ref S) (.ref it) .none) _ _ s from ?_)
  refine wpAny_bind (wpAny_updateSeq eS rfl ?_)
  have eS2 := Heap.get?_update_self (Obj.mapSeq (fun _ => (#[] : Array Value))) eS rfl
  have rest : ∀ b o, b ≠ S → s.heap.get? b = some o → (s.heap.update S (Obj.mapSeq (fun _ => (#[] : Array Value)))).get? b = some o :=
    fun b o n e => (Heap.get?_update_other _ _ n.symm).trans e
  refine wpAny_bind (wpAny_letGo ?_)
  refine back_extend calm (ri.at fun o e => rest it o Si.symm e) ?_ ne few S Si Sl .none _ eS2 fun h' tk acc c' k eS' got => ?_
  · obtain ⟨o, e, c, n, d⟩ := li
    exact ⟨o, rest l o Sl.symm e, c, n, d⟩
  · exact fin h' tk acc c' (fun b o n1 n2 e => k b o n1 n2 (rest b o n1 e)) eS' got
theorem back_list {Q : Value → Shared → Prop} (calm : A.handled = none) (ri : s.heap.IsRevIter it l ((ys.size : Int) - 1)) (li : s.heap.IsList l ys) (ne : l ≠ it) (few : ys.size ≤ sizeLine)
    (fin : ∀ h' tk acc c', (∀ b o, b ≠ it → s.heap.get? b = some o → h'.get? b = some o) → h'.get? s.heap.objs.size = some { cls := .type "list", dict := none, data := .seq acc c', slots := #[] } → BackOf ys acc →
      Q (.ref s.heap.objs.size) { s with heap := h', toks := tk }) : wpAny (model prog w) A (call (.type "list") [.ref it]) Q E s := by
  refine callType_codes (Q₁ := fun obj s1 => obj = .ref s.heap.objs.size ∧ s1 = { s with heap := s.heap.push { cls := .type "list", data := .seq #[] } }) F.called_list (F.typeCall_list_1 _) F.entry_list_init
    (code_list_new _ ⟨rfl, rfl⟩) fun obj s1 h1 => ?_
  obtain ⟨rfl, rfl⟩ := h1
  obtain ⟨oi, hoi, _⟩ := id ri
  obtain ⟨ol, hol, _⟩ := id li
  have eS : (s.heap.push { cls := .type "list", data := .seq #[] }).get? s.heap.objs.size = some { cls := .type "list", data := .seq #[] } := Heap.get?_push_size _ rfl
  refine ⟨⟨_, eS, rfl⟩, F.args_list_init_2 _ _, back_init (A := A.in1) calm (ri.at fun o e => Heap.get?_push_of_some _ e) (li.push _) ne few _ (Nat.ne_of_gt (Heap.lt_size hoi)) (Nat.ne_of_gt (Heap.lt_size hol)) eS fun h' tk acc c' k eS' got => ?_⟩
  exact ⟨rfl, fin h' tk acc c' (fun b o n e => k b o (Nat.ne_of_lt (Heap.lt_size e)) n (Heap.get?_push_of_some _ e)) eS' got⟩
end
section
variable {X : Cx}
/-- list(reversed(x)), x a list: a new list -/
def tLstRev (K : PySem.W.Frag) (te : TE) : TE := fun σ H Q => te σ H fun v H1 => ∃ (a : Addr) (xs : List V), v = .ref a ∧ SqL K H1 a xs ∧ ∀ q, H1 q = none → Q (.ref q) (upd H1 q (.lst xs.reverse))
theorem pe_lstRev {e : Expr} {te : TE} {p p2 pos pos2 : Pos} (calm : X.calm = true) (g1 : Gl X "list") (m1 : X.mg "list" = none) (g2 : Gl X "reversed") (m2 : X.mg "reversed" = none) (he : PE X e te)
    (n1 : starEach [e] X.env = (false, eval e X.env) :: starEach [] X.env := by rfl)
    (n2 : starEach [.Call (.Name "reversed" p2) [e] [] pos2] X.env = (false, eval (.Call (.Name "reversed" p2) [e] [] pos2) X.env) :: starEach [] X.env := by rfl) :
    PE X (.Call (.Name "list" p) [.Call (.Name "reversed" p2) [e] [] pos2] [] pos) (tLstRev X.K te) := by
  refine ⟨fun pins s σ H Q I h => ?_⟩
  refine Call_ (ld_blt I g1 m1 boot_list (PyProof.Rows.callWith_type1 (args_cons (Call_ (ld_blt I g2 m2 PyProof.Rows.boot_reversed (PyProof.Rows.callWith_type1 (args_cons (thn (he.run pins s σ H _ I h) fun u r1 ⟨v, H1, J, ru, want⟩ => args_nil ?_) n1) n1 rfl))) n2) n2 rfl))
  obtain ⟨a, xs, rfl, sq, q⟩ := want
  obtain rfl : u = Value.ref a := ru
  obtain ⟨its, rv, pl, hz⟩ := J.list sq
  refine call_reversed_list pl.isList (args_nil ?_)
  have k0 : ∀ b o, r1.heap.get? b = some o → (r1.heap.push (revObj a ((its.toArray.size : Int) - 1))).get? b = some o := fun b o e => Heap.get?_push_of_some _ e
  have J2 : Inv X pins σ H1 { r1 with heap := r1.heap.push (revObj a ((its.toArray.size : Int) - 1)) } := J.kept (t' := r1.toks) k0
  obtain ⟨f0, f1, f2, f3, f4, f5⟩ := J.fpOk (H' := H1) (b := r1.heap.objs.size) (Nat.le_refl _) (J.hok.fresh (Nat.le_refl _))
  have li := pl.isList
  obtain ⟨ol, hol, _⟩ := id li
  have ne : a ≠ r1.heap.objs.size := Nat.ne_of_lt (Heap.lt_size hol)
  have few : its.toArray.size ≤ sizeLine := by rw [List.size_toArray, ← rv.length]; exact hz
  have sz : (r1.heap.push (revObj a ((its.toArray.size : Int) - 1))).objs.size = r1.heap.objs.size + 1 := Heap.size_push ..
  have no : H1 (r1.heap.objs.size + 1) = none := J.hok.fresh (Nat.le_succ _)
  refine back_list (s := { r1 with heap := r1.heap.push (revObj a ((its.toArray.size : Int) - 1)) }) (J.ok.hd calm) ⟨_, Heap.get?_push_size _ rfl, rfl, rfl⟩ (li.push _) ne few fun h' tk acc c' k eS got => ?_
  have rest : acc.toList = its.reverse := by
    have hs : its.toArray.size = its.length := List.size_toArray
    have hl : acc.toList.length = its.length := by rw [Array.length_toList, got.1, hs]
    apply List.ext_getElem?
    intro j
    by_cases hj : j < its.length
    · have hja : j < acc.toList.length := by omega
      have e1 : acc.toList[j]? = some acc.toList[j] := List.getElem?_eq_getElem hja
      have e2 : its.toArray[its.toArray.size - 1 - j]? = some acc.toList[j] := got.2 j _ (by rw [← Array.getElem?_toList]; exact e1)
      rw [e1, List.getElem?_reverse hj, ← e2, hs]
      simp
    · rw [List.getElem?_eq_none (by omega), List.getElem?_eq_none (by rw [List.length_reverse]; omega)]
  have J3 := J2.turnedNew (h' := h') (t' := tk) (ch := [r1.heap.objs.size]) (T := (r1.heap.push (revObj a ((its.toArray.size : Int) - 1))).objs.size) (ob := .lst xs.reverse) (fun b o n e => k b o (fun z => n (by rw [z]; exact List.mem_singleton.mpr rfl)) e)
    (fun b hb => by
      obtain rfl := List.mem_singleton.mp hb
      exact ⟨f0, f1, f2, f3, f4, f5⟩) (Nat.le_refl _) (show ObjOk X.prog X.w _ _ _ (.lst xs.reverse) from ⟨by rw [List.length_reverse]; exact hz, acc.toList, c', by rw [rest]; exact rv.reverse, by rw [Array.toArray_toList]; exact eS⟩)
  exact ⟨.ref _, _, J3, rfl, q _ (J2.hok.fresh (Nat.le_refl _))⟩
/-! ### list(range(i, j, c)) -/
def steps (i c : Int) (n : Nat) : List V := (List.range n).map fun k => V.int (i + (k : Nat) * c)
theorem vals_steps {i c : Int} {n : Nat} {acc : Array Value} (h : ItemsOf (fun k v => ∃ t, v = .int (i + k * c) t) acc n) : Vals (steps i c n) acc.toList := by
  have e : acc.toList.length = n := by rw [Array.length_toList]; exact h.1
  unfold steps
  rw [← e]
  refine vals_of_get acc.toList _ fun j u hj => ?_
  obtain ⟨t, rfl⟩ := h.2 j u (by rw [← hj, Array.getElem?_toList])
  exact ⟨t, rfl⟩
def tLstStep (ta : TA) : TE := fun σ H Q => ta σ H fun vs H1 => ∃ (i j c : Int) (n : Nat), vs = [.int i, .int j, .int c] ∧ RgC i j c n ∧ n ≤ 16777216 ∧ ∀ q, H1 q = none → Q (.ref q) (upd H1 q (.lst (steps i c n)))
theorem pe_lstStep {a b c : Expr} {ta : TA} {p p2 pos pos2 : Pos} (calm : X.calm = true) (g1 : Gl X "list") (m1 : X.mg "list" = none) (g2 : Gl X "range") (m2 : X.mg "range" = none) (ha : PA X [a, b, c] ta)
    (n1 : starEach [a, b, c] X.env = (false, eval a X.env) :: starEach [b, c] X.env := by rfl) (n2 : (backTo pos2 (starEach [b, c] X.env)).any (·.1) = false := by rfl)
    (n3 : starEach [.Call (.Name "range" p2) [a, b, c] [] pos2] X.env = (false, eval (.Call (.Name "range" p2) [a, b, c] [] pos2) X.env) :: starEach [] X.env := by rfl) :
    PE X (.Call (.Name "list" p) [.Call (.Name "range" p2) [a, b, c] [] pos2] [] pos) (tLstStep ta) := by
  refine ⟨fun pins s σ H Q I h => ?_⟩
  refine Call_ (ld_blt I g1 m1 boot_list (PyProof.Rows.callWith_type1 (args_cons (Call_ (ld_blt I g2 m2 boot_range (PyProof.Rows.callWith_type1 (thn (ha.run pos2 pins s σ H _ I h) fun us r1 ⟨vs, H1, J, rv, want⟩ => ?_) n1 n2))) n3) n3))
  obtain ⟨i, j, k, n, rfl, ⟨c0, c1, c2, c3⟩, few, q⟩ := want
  cases rv with
  | cons r rr =>
    cases rr with
    | cons r' rr =>
      cases rr with
      | cons r'' rr =>
        cases rr
        obtain ⟨t, rfl⟩ := r
        obtain ⟨t', rfl⟩ := r'
        obtain ⟨t'', rfl⟩ := r''
        refine call_range_3 c0 (args_nil ?_) (.inl (PyProof.noPylong_small c1))
        have J2 : Inv X pins σ H1 { r1 with heap := r1.heap.push { cls := .type "range", data := .fields #[.int i t, .int j t', .int k t''] } } := J.kept (t' := r1.toks) fun b o e => Heap.get?_push_of_some _ e
        refine call_list_range (n := n) (J.ok.hd calm) (IsRange.new ..) c2 c3 (by omega) fun h' tk acc c' keep eS got => ?_
        refine ⟨.ref _, _, J2.laid (t' := tk) (o := .lst (steps i k n)) keep (Nat.le_refl _) ⟨?_, acc.toList, c', vals_steps got, ?_⟩, rfl, q _ (J2.hok.fresh (Nat.le_refl _))⟩
        · unfold steps
          rw [List.length_map, List.length_range, sizeLine_eq]
          exact few
        · rw [Array.toArray_toList]
          exact eS
/-- for x in xs, a list or a tuple -/
def iSeq (K : PySem.W.Frag) (tl : TE) : TI := fun σ H R => tl σ H fun x H1 => ∃ a, x = .ref a ∧ (((∃ xs, SqL K H1 a xs) ∧ R (Itl K a) H1) ∨ ((∃ xs, SqT K H1 a xs) ∧ R (Itt K a) H1))
theorem pi_seq {tg l : Expr} {tl : TE} (hl : PE X l tl) : PI X tg l (iSeq X.K tl) := by
  refine ⟨fun pins s σ H R I h => ?_⟩
  refine thn (hl.run pins s σ H _ I h) fun v s1 ⟨x, H1, J, rv, want⟩ => ?_
  obtain ⟨a, rfl, want⟩ := want
  obtain rfl : v = Value.ref a := rv
  have fresh : ∀ ob : Obj, ∀ b ∈ [s1.heap.objs.size], FpOk X pins H1 b := fun ob b hb => by
    obtain rfl := List.mem_singleton.mp hb
    exact J.fpOk (Nat.le_refl _) (J.hok.fresh (Nat.le_refl _))
  rcases want with ⟨⟨xs, sq⟩, q⟩ | ⟨⟨xs, sq⟩, q⟩
  · obtain ⟨its, rs, pl, _⟩ := J.list sq
    refine wpAny_pyIter_list pl.isList ?_
    exact ⟨s1.heap.objs.size, [s1.heap.objs.size], _, _, H1, rfl, J.kept (t' := s1.toks) fun b o e => Heap.get?_push_of_some _ e, turn_list a _, ⟨_, Heap.get?_push_size _ rfl, rfl, rfl⟩, fresh default, q⟩
  · obtain ⟨its, rs, pl, _⟩ := J.tuple sq
    refine wpAny_pyIter_tuple (show s1.heap.IsTuple a its.toArray from pl) ?_
    exact ⟨s1.heap.objs.size, [s1.heap.objs.size], _, _, H1, rfl, J.kept (t' := s1.toks) fun b o e => Heap.get?_push_of_some _ e, turn_tuple a _, ⟨_, Heap.get?_push_size _ rfl, rfl, rfl⟩, fresh default, q⟩
/-- isinstance(x, (list, tuple)) -/
inductive IsSeq (K : PySem.W.Frag) (H : Hp) : V → Bool → Prop
  | non : IsSeq K H .non false
  | bl (b : Bool) : IsSeq K H (.bl b) false
  | int (i : Int) : IsSeq K H (.int i) false
  | str (z : Str) : IsSeq K H (.str z) false
  | lst {a : Addr} (h : TyX K H (.ref a) (.type "list")) : IsSeq K H (.ref a) true
  | tup {a : Addr} (h : TyX K H (.ref a) (.type "tuple")) : IsSeq K H (.ref a) true
  | dct {a : Addr} (h : TyX K H (.ref a) (.type "dict")) : IsSeq K H (.ref a) false
theorem kit_lt {K : PySem.W.Frag} {a : String} {x y r : Bool} (h1 : kitB a "list" = some x) (h2 : kitB a "tuple" = some y) (e : r = (x || y)) : PySem.W.kitAny K (.type a) [.type "list", .type "tuple"] = some r := by
  refine kitAny_cons (kit_ty h1) (fun z => ?_) (fun z => by rw [e, z]; rfl)
  refine kitAny_cons (kit_ty h2) (fun z2 => ?_) (fun z2 => by rw [e, z2, Bool.or_true])
  rw [e, z, z2]
  exact kitAny_nil
theorem isi_seq {K : PySem.W.Frag} {H : Hp} {x : V} {b : Bool} {tp : Addr} {Q : VK} (ht : H tp = some (.tup [.ty "list", .ty "tuple"])) (h : IsSeq K H x b) (q : Q (.bl b) H) : rIsiT K [x, .ref tp] H Q := by
  have two : Paired ClsV [.ty "list", .ty "tuple"] [.type "list", .type "tuple"] := .cons (.ty _) (.cons (.ty _) .nil)
  cases h with
  | non => exact ⟨_, _, _, _, _, _, rfl, ht, two, .base .non, kit_lt (x := false) (y := false) (by decide +kernel) (by decide +kernel) rfl, q⟩
  | bl b => exact ⟨_, _, _, _, _, _, rfl, ht, two, .base (.bl b), kit_lt (x := false) (y := false) (by decide +kernel) (by decide +kernel) rfl, q⟩
  | int i => exact ⟨_, _, _, _, _, _, rfl, ht, two, .base (.int i), kit_lt (x := false) (y := false) (by decide +kernel) (by decide +kernel) rfl, q⟩
  | str z => exact ⟨_, _, _, _, _, _, rfl, ht, two, .base (.str z), kit_lt (x := false) (y := false) (by decide +kernel) (by decide +kernel) rfl, q⟩
  | lst h => exact ⟨_, _, _, _, _, _, rfl, ht, two, h, kit_lt (x := true) (y := false) (by decide +kernel) (by decide +kernel) rfl, q⟩
  | tup h => exact ⟨_, _, _, _, _, _, rfl, ht, two, h, kit_lt (x := false) (y := true) (by decide +kernel) (by decide +kernel) rfl, q⟩
  | dct h => exact ⟨_, _, _, _, _, _, rfl, ht, two, h, kit_lt (x := false) (y := false) (by decide +kernel) (by decide +kernel) rfl, q⟩
theorem call_is_seq : CallR X (.builtin "isinstance") (fun xs H Q => ∃ x tp b, xs = [x, .ref tp] ∧ H tp = some (.tup [.ty "list", .ty "tuple"]) ∧ IsSeq X.K H x b ∧ Q (.bl b) H) := by
  intro pins s σ H xs us Q I r ⟨x, tp, b, e, ht, th, q⟩
  subst e
  exact call_isiT pins s σ H _ us Q I r (isi_seq ht th q)
theorem IsSeq.keep {K : PySem.W.Frag} {H H' : Hp} {x : V} {b : Bool} (k : Keep H H') (h : IsSeq K H x b) : IsSeq K H' x b := by
  cases h with
  | non => exact .non
  | bl b => exact .bl b
  | int i => exact .int i
  | str z => exact .str z
  | lst h => exact .lst (tyX_keep k h)
  | tup h => exact .tup (tyX_keep k h)
  | dct h => exact .dct (tyX_keep k h)
end
theorem op_in_seqK {X : Cx} {K : PySem.W.Frag} (h : X.K = K) : OpR X (compareOp .In) (rIn K false) := by
  rw [← h]
  exact op_in_seq
/-- the same in a comprehension's frame -/
theorem pg_tupK {X : Cx} {K : PySem.W.Frag} {es : List Expr} {k : Nat} {t : TGs} {n : Nat} {pos : Pos} (hK : X.K = K) (hc : X.calm = true) (h : PGs X es t)
    (hn : (assignEach es X.env).length = n := by rfl) (hst : (assignEach es X.env).findIdx? (·.1) = none := by rfl) : PG X (.Tuple es k pos) (gTup K n t) := by
  rw [← hK]
  exact pg_tup hc h hn hst
end LL
namespace LL
open PySem PySem.Spec PyProof.Rows L2
/-! ### a row's numbers, one by one -/
theorem filt_gap {S : Nat → Bool} {x y : Nat} (h : x ≤ y) (no : ∀ n, x ≤ n → n < y → S n = false) : (List.range y).filter S = (List.range x).filter S := by
  obtain ⟨d, rfl⟩ := Nat.exists_eq_add_of_le h
  clear h
  induction d with
  | zero => rfl
  | succ d ih =>
    rw [← Nat.add_assoc, List.range_succ, List.filter_append, ih (fun n a b => no n a (by omega))]
    rw [List.filter_cons_of_neg (by rw [no (x + d) (by omega) (by omega)]; exact Bool.false_ne_true), List.filter_nil, List.append_nil]
theorem filt_one {S : Nat → Bool} {n : Nat} (h : S n = true) : (List.range (n + 1)).filter S = (List.range n).filter S ++ [n] := by
  rw [List.range_succ, List.filter_append, List.filter_cons_of_pos h, List.filter_nil]
def numsOf (r : List Pr) : List Nat := (List.range 400).filter (has r)
theorem TidyFrom.split : ∀ {r1 : List Pr} {b : Nat} {z : Pr} {r2 : List Pr}, TidyFrom b (r1 ++ z :: r2) → (∀ y ∈ r1, y.2 < z.1) ∧ z.1 < z.2 ∧ z.2 ≤ 400 ∧ TidyFrom (z.2 + 1) r2
  | [], _, z, r2, ⟨_, h2, h3, h4⟩ => ⟨(fun y hy => nomatch hy), h2, h3, h4⟩
  | w :: r1, b, z, r2, ⟨h1, h2, h3, h4⟩ => by
    obtain ⟨a1, a2, a3, a4⟩ := TidyFrom.split (r1 := r1) h4
    refine ⟨fun y hy => ?_, a2, a3, a4⟩
    rcases List.mem_cons.mp hy with rfl | hy
    · have : has (r1 ++ z :: r2) z.1 = true := by rw [has_app, has_cons, decide_eq_true (Nat.le_refl _), decide_eq_true a2]; simp
      have := (h4.low this).1
      omega
    · exact a1 y hy
theorem has_over {r : List Pr} {n : Nat} (h : ∀ y ∈ r, y.2 ≤ n) : has r n = false := by
  cases q : has r n with
  | false => rfl
  | true =>
    obtain ⟨y, hy, q⟩ := List.any_eq_true.mp q
    have q := of_decide_eq_true (Bool.and_eq_true_iff.mp q).2
    have := h y hy
    omega
/-- where the i-th stretch begins, or the end -/
def upTo (r : List Pr) (i : Nat) : Nat := match r[i]? with | some z => z.1 | none => 400
theorem upTo_gap {r : List Pr} {i : Nat} {z : Pr} (h : Tidy r) (e : r[i]? = some z) : z.2 ≤ upTo r (i + 1) ∧ ∀ n, z.2 ≤ n → n < upTo r (i + 1) → has r n = false := by
  obtain ⟨hi, rfl⟩ := List.getElem?_eq_some_iff.mp e
  have sp : r = r.take i ++ r[i] :: r.drop (i + 1) := by
    rw [← List.drop_eq_getElem_cons hi, List.take_append_drop]
  have h' := h
  rw [sp] at h'
  obtain ⟨a1, a2, a3, a4⟩ := TidyFrom.split (b := 0) h'
  have get : r[i + 1]? = (r.drop (i + 1))[0]? := by rw [List.getElem?_drop]
  unfold upTo
  rw [get]
  cases q : r.drop (i + 1) with
  | nil =>
    refine ⟨a3, fun n l _ => ?_⟩
    rw [sp, has_app, has_cons, q, has_nil, has_over (fun y hy => Nat.le_of_lt (Nat.lt_of_lt_of_le (a1 y hy) (by omega))), decide_eq_false (show ¬ n < r[i].2 by omega), Bool.and_false]
    rfl
  | cons w t =>
    rw [q] at a4
    obtain ⟨b1, b2, b3, b4⟩ := a4
    refine ⟨Nat.le_of_succ_le b1, fun n l u => ?_⟩
    have u : n < w.1 := u
    have no : has (w :: t) n = false := TidyFrom.none (b := w.1) (r := w :: t) ⟨Nat.le_refl _, b2, b3, b4⟩ u
    rw [sp, has_app, has_cons, q, no, has_over (fun y hy => by have := a1 y hy; omega), decide_eq_false (show ¬ n < r[i].2 by omega), Bool.and_false]
    rfl
theorem upTo_first {r : List Pr} (h : Tidy r) : ∀ n, n < upTo r 0 → has r n = false := fun n l => by
  cases r with
  | nil => rfl
  | cons z r =>
    obtain ⟨h1, h2, h3, h4⟩ := h
    exact TidyFrom.none (b := z.1) (r := z :: r) ⟨Nat.le_refl _, h2, h3, h4⟩ l
theorem upTo_in {r : List Pr} {i : Nat} {z : Pr} (e : r[i]? = some z) : upTo r i = z.1 := by
  unfold upTo
  rw [e]
theorem upTo_end {r : List Pr} : upTo r r.length = 400 := by
  unfold upTo
  rw [List.getElem?_eq_none (Nat.le_refl _)]
theorem has_at {r : List Pr} {i : Nat} {z : Pr} {n : Nat} (e : r[i]? = some z) (l : z.1 ≤ n) (u : n < z.2) : has r n = true :=
  List.any_eq_true.mpr ⟨z, List.mem_of_getElem? e, by rw [decide_eq_true l, decide_eq_true u]; rfl⟩
/-! ### [e for x in xs for y in range(..)] -/
theorem lc2_rows {K : PySem.W.Frag} {a : Addr} {xs : List V} {g g1 : TG} {tt tt1 : TT} {wi1 : TI} {te : TE} {vs vs1 : List Nat} {σ : L2.St} {H1 : Hp} {D : Addr} {Qd : Hp → Prop} (J : Nat → Hp → Prop) (first : J 0 (upd H1 D (.lst []))) (still : ∀ i H, i ≤ xs.length → J i H → SqL K H a xs)
    (turn : ∀ i x H, xs[i]? = some x → J i H → g x (wipe σ vs) H fun σ2 H2 => wipe σ2 vs = wipe σ vs ∧ tt σ2 H2 fun b H3 =>
      if b = true then wi1 σ2 H3 fun J1 H4 => ∃ W1 : Nat → Nat → Hp → Prop, (∃ m, W1 0 m H4) ∧ ∀ j k H, W1 j k H →
        (J1.stop j H ∧ J (i + 1) H) ∨ (J1.go j H ∧ ∃ Nx1 : Hp → Prop, (∀ H', Nx1 H' → ∃ k', k' < k ∧ W1 (j + 1) k' H') ∧ ∀ x H', J1.yld j H x H' → g1 x (wipe σ2 vs1) H' fun σ3 H5 => wipe σ3 vs1 = wipe σ2 vs1 ∧ tt1 σ3 H5 fun b H6 =>
          if b = true then te σ3 H6 fun y H7 => ∃ acc, H7 D = some (.lst acc) ∧ acc.length < sizeLine ∧ Nx1 (upd H7 D (.lst (acc ++ [y]))) else Nx1 H6)
      else J (i + 1) H3) (last : ∀ H, J xs.length H → Qd H) :
    ∃ W : Nat → Nat → Hp → Prop, (∃ m, W 0 m (upd H1 D (.lst []))) ∧ ∀ i m H, W i m H →
      ((Itl K a).stop i H ∧ Qd H) ∨ ((Itl K a).go i H ∧ ∃ Nx : Hp → Prop, (∀ H', Nx H' → ∃ m', m' < m ∧ W (i + 1) m' H') ∧ ∀ x H', (Itl K a).yld i H x H' → g x (wipe σ vs) H' fun σ2 H2 => wipe σ2 vs = wipe σ vs ∧ tt σ2 H2 fun b H3 =>
        if b = true then wi1 σ2 H3 fun J1 H4 => ∃ W1 : Nat → Nat → Hp → Prop, (∃ m, W1 0 m H4) ∧ ∀ j k H, W1 j k H →
          (J1.stop j H ∧ Nx H) ∨ (J1.go j H ∧ ∃ Nx1 : Hp → Prop, (∀ H', Nx1 H' → ∃ k', k' < k ∧ W1 (j + 1) k' H') ∧ ∀ x H', J1.yld j H x H' → g1 x (wipe σ2 vs1) H' fun σ3 H5 => wipe σ3 vs1 = wipe σ2 vs1 ∧ tt1 σ3 H5 fun b H6 =>
            if b = true then te σ3 H6 fun y H7 => ∃ acc, H7 D = some (.lst acc) ∧ acc.length < sizeLine ∧ Nx1 (upd H7 D (.lst (acc ++ [y]))) else Nx1 H6)
        else Nx H3) := by
  refine ⟨fun i m H => m = xs.length - i ∧ i ≤ xs.length ∧ J i H, ⟨xs.length, by simp, Nat.zero_le _, first⟩, ?_⟩
  rintro i m H ⟨rfl, le, j⟩
  have sq := still i H le j
  rcases Nat.lt_or_ge i xs.length with lt | ge
  · refine .inr ⟨⟨xs, xs[i], sq, by simp [lt]⟩, J (i + 1), fun H' j' => ⟨xs.length - (i + 1), by omega, rfl, lt, j'⟩, fun x H' y => ?_⟩
    obtain ⟨rfl, y⟩ := y
    exact turn i x _ (y xs sq) j
  · obtain rfl : i = xs.length := by omega
    exact .inl ⟨⟨xs, sq, Nat.le_refl _⟩, last H j⟩
theorem lc2_nums {lo : Int} {n : Nat} {g1 : TG} {tt1 : TT} {te : TE} {vs1 : List Nat} {σ2 : L2.St} {H4 : Hp} {D : Addr} {Nx : Hp → Prop} (J : Nat → Hp → Prop) (first : J 0 H4)
    (turn : ∀ j H, j < n → J j H → g1 (.int (lo + (j : Nat))) (wipe σ2 vs1) H fun σ3 H5 => wipe σ3 vs1 = wipe σ2 vs1 ∧ tt1 σ3 H5 fun b H6 =>
      if b = true then te σ3 H6 fun y H7 => ∃ acc, H7 D = some (.lst acc) ∧ acc.length < sizeLine ∧ J (j + 1) (upd H7 D (.lst (acc ++ [y]))) else J (j + 1) H6) (last : ∀ H, J n H → Nx H) :
    ∃ W1 : Nat → Nat → Hp → Prop, (∃ m, W1 0 m H4) ∧ ∀ j k H, W1 j k H →
      ((Itr lo n).stop j H ∧ Nx H) ∨ ((Itr lo n).go j H ∧ ∃ Nx1 : Hp → Prop, (∀ H', Nx1 H' → ∃ k', k' < k ∧ W1 (j + 1) k' H') ∧ ∀ x H', (Itr lo n).yld j H x H' → g1 x (wipe σ2 vs1) H' fun σ3 H5 => wipe σ3 vs1 = wipe σ2 vs1 ∧ tt1 σ3 H5 fun b H6 =>
        if b = true then te σ3 H6 fun y H7 => ∃ acc, H7 D = some (.lst acc) ∧ acc.length < sizeLine ∧ Nx1 (upd H7 D (.lst (acc ++ [y]))) else Nx1 H6) := by
  refine ⟨fun i m H => m = n - i ∧ i ≤ n ∧ J i H, ⟨n, by simp, Nat.zero_le _, first⟩, ?_⟩
  rintro i m H ⟨rfl, le, j⟩
  rcases Nat.lt_or_ge i n with lt | ge
  · refine .inr ⟨lt, J (i + 1), fun H' j' => ⟨n - (i + 1), by omega, rfl, lt, j'⟩, fun x H' y => ?_⟩
    obtain ⟨rfl, rfl⟩ := y
    exact turn i _ lt j
  · obtain rfl : i = n := by omega
    exact .inl ⟨Nat.le_refl _, last H j⟩
/-! ### lists of whole numbers as data -/
def natDat (ns : List Nat) : PyData := .list (ns.map fun n : Nat => .int (n : Int))
theorem nat_dpA {K : PySem.W.Frag} {H : Hp} : ∀ ns : List Nat, DpAll K H (ns.map fun n : Nat => V.int (n : Int)) (ns.map fun n : Nat => PyData.int (n : Int))
  | [] => .nil
  | n :: ns => .cons (.int _) (nat_dpA ns)
theorem nat_dp {K : PySem.W.Frag} {H : Hp} {a : Addr} {ns : List Nat} (e : H a = some (.lst (ns.map fun n : Nat => V.int (n : Int)))) : Dp K H (.ref a) (natDat ns) := .lst (SqL.of e) (nat_dpA ns)
theorem natDat_eqv (ns ms : List Nat) : PyData.eqv (natDat ns) (natDat ms) = decide (ns = ms) := by
  have all : ∀ ns ms : List Nat, PyData.eqvAll (ns.map fun n : Nat => PyData.int (n : Int)) (ms.map fun n : Nat => PyData.int (n : Int)) = decide (ns = ms) := by
    intro ns
    induction ns with
    | nil =>
      intro ms
      cases ms <;> simp [PyData.eqvAll]
    | cons n ns ih =>
      intro ms
      cases ms with
      | nil => simp [PyData.eqvAll]
      | cons m ms =>
        simp only [List.map_cons, PyData.eqvAll, PyData.eqv]
        rw [ih, Bool.eq_iff_iff]
        simp
        exact fun _ => by omega
  simp only [natDat, PyData.eqv]
  exact all ns ms
theorem natDat_shaped (ns : List Nat) : SeqAt.shaped (natDat ns) = true := by
  have lay : ∀ ns : List Nat, PyData.canLayAll0 (ns.map fun n : Nat => PyData.int (n : Int)) = true := by
    intro ns
    induction ns with
    | nil => simp [PyData.canLayAll0]
    | cons n ns ih => simp [PyData.canLayAll0, PyData.canLay0, ih]
  have dep : ∀ ns : List Nat, PyData.depthAll (ns.map fun n : Nat => PyData.int (n : Int)) = 0 := by
    intro ns
    induction ns with
    | nil => simp [PyData.depthAll]
    | cons n ns ih => simp [PyData.depthAll, PyData.depth, ih]
  show (PyData.canLay0 (natDat ns) && decide (PyData.depth (natDat ns) ≤ 64)) = true
  rw [Bool.and_eq_true]
  refine ⟨by simp only [natDat, PyData.canLay0]; exact lay ns, decide_eq_true ?_⟩
  simp only [natDat, PyData.depth]
  rw [dep]
  decide
/-- a list or a tuple of whole numbers -/
def NumSq (H : Hp) (a : Addr) (ns : List Nat) : Prop := H a = some (.lst (ns.map fun n : Nat => V.int (n : Int))) ∨ H a = some (.tup (ns.map fun n : Nat => V.int (n : Int)))
theorem NumSq.keep {a : Addr} {H H' : Hp} {ns : List Nat} (k : Keep H H') (h : NumSq H a ns) : NumSq H' a ns := by
  rcases h with e | e
  · exact .inl (k _ _ (fun q z => by cases z) e)
  · exact .inr (k _ _ (fun q z => by cases z) e)
/-! ### a box and the table change, the rest is kept -/
structure Kb (a P : Addr) (H H' : Hp) : Prop where
  box : ∃ o, H' a = some o ∧ BoxO o
  tab : GxR.TabG H' P
  old : ∀ b o, b ≠ a → b ≠ P → H b = some o → H' b = some o
theorem box_tab {a P : Addr} {H : Hp} (b : ∃ o, H a = some o ∧ BoxO o) (t : GxR.TabG H P) : a ≠ P := by
  obtain ⟨o, e, x0, y0, z0, rfl, _⟩ := b
  exact tab_ne t e (fun q z => by cases z)
theorem Kb.refl {a P : Addr} {H : Hp} (b : ∃ o, H a = some o ∧ BoxO o) (t : GxR.TabG H P) : Kb a P H H := ⟨b, t, fun _ _ _ _ e => e⟩
theorem Kb.kept {a P : Addr} {H H1 H2 : Hp} (x : Kb a P H H1) (y : Kept a H1 H2) : Kb a P H H2 := ⟨y.box, y.tab x.box x.tab, fun b o n m e => y.old b o n (x.old b o n m e)⟩
theorem Kb.nw {a P : Addr} {H H1 H2 : Hp} (x : Kb a P H H1) (y : Nw P H1 H2) : Kb a P H H2 := by
  have n := box_tab x.box x.tab
  obtain ⟨o, e, b⟩ := x.box
  exact ⟨⟨o, y.old a o n e, b⟩, y.tab, fun c u m k q => y.old c u k (x.old c u m k q)⟩
theorem Kb.exd {a P : Addr} {H H1 H2 : Hp} (x : Kb a P H H1) (y : Exd H1 H2) : Kb a P H H2 := x.kept (y.kept x.box)
theorem Kb.trans {a P : Addr} {H H1 H2 : Hp} (x : Kb a P H H1) (y : Kb a P H1 H2) : Kb a P H H2 := ⟨y.box, y.tab, fun b o n m e => y.old b o n m (x.old b o n m e)⟩
theorem Kb.new {a P p : Addr} {H H1 : Hp} {u : HO} (x : Kb a P H H1) (hp : H1 p = none) : Kb a P H (L2.upd H1 p u) := x.exd ((Exd.refl _).new hp)
/-- what was new is changed -/
theorem Kb.put {a P p : Addr} {H H1 : Hp} {u o : HO} (x : Kb a P H H1) (hp : H p = none) (na : p ≠ a) (ho : H1 p = some o) (n : ∀ q, o ≠ .tbl q) : Kb a P H (L2.upd H1 p u) := by
  obtain ⟨o', e, b⟩ := x.box
  exact ⟨⟨o', by rw [upd_ne na.symm]; exact e, b⟩, tab_upd x.tab (fun z => tab_ne x.tab ho n z.symm), fun c v m k q => by rw [upd_ne (ne_of_none q hp)]; exact x.old c v m k q⟩
/-- a box that is new since H0 -/
theorem Kb.toNw {a P : Addr} {H0 H H' : Hp} (x : Kb a P H H') (n : Nw P H0 H) (h : H0 a = none) : Nw P H0 H' :=
  ⟨n.was, x.tab, fun c o m e => x.old c o (fun z => by rw [z, h] at e; cases e) m (n.old c o m e)⟩
theorem RowAt.neBox {a b : Addr} {H : Hp} {r : List Pr} (h : RowAt H b r) (bx : ∃ o, H a = some o ∧ BoxO o) : b ≠ a := fun z => by
  obtain ⟨o, e, x0, y0, z0, rfl, _⟩ := bx
  obtain ⟨qs, e1, p⟩ := h
  rw [z, e] at e1
  have := congrArg (fun u : Option HO => match u with | some (.lst (v :: _)) => some v | _ => none) e1
  cases qs with
  | nil => cases this
  | cons q qs => cases this
theorem PrsAt.kb {a P : Addr} {H H' : Hp} {qs : List Addr} {r : List Pr} (h : PrsAt H qs r) (bx : ∃ o, H a = some o ∧ BoxO o) (t : GxR.TabG H P) (x : Kb a P H H') : PrsAt H' qs r := by
  obtain ⟨o, e, x0, y0, z0, rfl, _⟩ := bx
  exact h.put fun q xs e2 => x.old q _ (fun z => by rw [z, e] at e2; cases e2) (tab_ne t e2 (fun q z => by cases z)) e2
theorem RowAt.kb {a b P : Addr} {H H' : Hp} {r : List Pr} (h : RowAt H b r) (bx : ∃ o, H a = some o ∧ BoxO o) (t : GxR.TabG H P) (x : Kb a P H H') : RowAt H' b r := by
  have nb := h.neBox bx
  obtain ⟨qs, e1, p⟩ := h
  exact ⟨qs, x.old b _ nb (tab_ne t e1 (fun q z => by cases z)) e1, p.kb bx t x⟩
theorem Kb.lst {a b P : Addr} {H H' : Hp} {xs : List V} (x : Kb a P H H') (t : GxR.TabG H P) (n : b ≠ a) (e : H b = some (.lst xs)) : H' b = some (.lst xs) := x.old b _ n (tab_ne t e (fun q z => by cases z)) e
theorem Kb.tup {a b P : Addr} {H H' : Hp} {xs : List V} (x : Kb a P H H') (t : GxR.TabG H P) (n : b ≠ a) (e : H b = some (.tup xs)) : H' b = some (.tup xs) := x.old b _ n (tab_ne t e (fun q z => by cases z)) e
theorem Kb.free {a b P : Addr} {H H' : Hp} (x : Kb a P H H') (e : H' b = none) : H b = none := by
  cases q : H b with
  | none => rfl
  | some o =>
    by_cases z : b = a
    · obtain ⟨o', e', _⟩ := x.box
      rw [z, e'] at e
      cases e
    · by_cases z2 : b = P
      · obtain ⟨ps, e2, _⟩ := x.tab
        rw [z2, e2] at e
        cases e
      · rw [x.old b o z z2 q] at e
        cases e
end LL
namespace LL
open PySem PySem.Spec PyProof.Rows L2
def top (i : Nat) : Stmt := PySem.Challenge.pw_leastlore_k14_tidy_rows_made.main.body.getD i (.Pass ⟨0, 0, 0, 0⟩)
abbrev scmaskbetween_st : Stmt := top 5
abbrev scmaskbetween_N : List Str := ["begin", "end"]
theorem scmaskbetween : FnScope scmaskbetween_N ["begin", "end"] (defScope scmaskbetween_st) := ⟨rfl, rfl, rfl, by decide +kernel, rfl, by decide +kernel, by decide +kernel⟩
abbrev scmaskof_st : Stmt := top 6
abbrev scmaskof_N : List Str := ["runs", "mask", "begin", "end"]
theorem scmaskof : FnScope scmaskof_N ["runs"] (defScope scmaskof_st) := ⟨rfl, rfl, rfl, by decide +kernel, rfl, by decide +kernel, by decide +kernel⟩
abbrev scfirstin_st : Stmt := top 7
abbrev scfirstin_N : List Str := ["mask"]
theorem scfirstin : FnScope scfirstin_N ["mask"] (defScope scfirstin_st) := ⟨rfl, rfl, rfl, by decide +kernel, rfl, by decide +kernel, by decide +kernel⟩
abbrev scrunsin_st : Stmt := top 8
abbrev scrunsin_N : List Str := ["mask", "runs", "end", "begin"]
theorem scrunsin : FnScope scrunsin_N ["mask"] (defScope scrunsin_st) := ⟨rfl, rfl, rfl, by decide +kernel, rfl, by decide +kernel, by decide +kernel⟩
abbrev sciswhole_st : Stmt := top 10
abbrev sciswhole_N : List Str := ["thing"]
theorem sciswhole : FnScope sciswhole_N ["thing"] (defScope sciswhole_st) := ⟨rfl, rfl, rfl, by decide +kernel, rfl, by decide +kernel, by decide +kernel⟩
abbrev sciswithin_st : Stmt := top 11
abbrev sciswithin_N : List Str := ["thing", "low", "high"]
theorem sciswithin : FnScope sciswithin_N ["thing", "low", "high"] (defScope sciswithin_st) := ⟨rfl, rfl, rfl, by decide +kernel, rfl, by decide +kernel, by decide +kernel⟩
abbrev scisspan_st : Stmt := top 14
abbrev scisspan_N : List Str := ["begin", "end", "most"]
theorem scisspan : FnScope scisspan_N ["begin", "end", "most"] (defScope scisspan_st) := ⟨rfl, rfl, rfl, by decide +kernel, rfl, by decide +kernel, by decide +kernel⟩
abbrev scisstretch_st : Stmt := top 15
abbrev scisstretch_N : List Str := ["thing"]
theorem scisstretch : FnScope scisstretch_N ["thing"] (defScope scisstretch_st) := ⟨rfl, rfl, rfl, by decide +kernel, rfl, by decide +kernel, by decide +kernel⟩
abbrev scisruns_st : Stmt := top 16
abbrev scisruns_N : List Str := ["thing"]
theorem scisruns : FnScope scisruns_N ["thing"] (defScope scisruns_st) := ⟨rfl, rfl, rfl, by decide +kernel, rfl, by decide +kernel, by decide +kernel⟩
abbrev scrunsof_st : Stmt := top 17
abbrev scrunsof_N : List Str := ["stretches", "stretch"]
theorem scrunsof : FnScope scrunsof_N ["stretches"] (defScope scrunsof_st) := ⟨rfl, rfl, rfl, by decide +kernel, rfl, by decide +kernel, by decide +kernel⟩
abbrev scrunsby_st : Stmt := top 18
abbrev scrunsby_N : List Str := ["numbers", "mask", "number"]
theorem scrunsby : FnScope scrunsby_N ["numbers"] (defScope scrunsby_st) := ⟨rfl, rfl, rfl, by decide +kernel, rfl, by decide +kernel, by decide +kernel⟩
abbrev schowmany_st : Stmt := top 19
abbrev schowmany_N : List Str := ["runs"]
theorem schowmany : FnScope schowmany_N ["runs"] (defScope schowmany_st) := ⟨rfl, rfl, rfl, by decide +kernel, rfl, by decide +kernel, by decide +kernel⟩
abbrev scnumbersin_st : Stmt := top 20
abbrev scnumbersin_N : List Str := ["runs", "begin", "end", "number"]
theorem scnumbersin : FnScope scnumbersin_N ["runs"] (defScope scnumbersin_st) := ⟨rfl, rfl, rfl, by decide +kernel, rfl, by decide +kernel, by decide +kernel⟩
abbrev schasnumber_st : Stmt := top 21
abbrev schasnumber_N : List Str := ["runs", "thing", "numbers"]
theorem schasnumber : FnScope schasnumber_N ["runs", "thing"] (defScope schasnumber_st) := ⟨rfl, rfl, rfl, by decide +kernel, rfl, by decide +kernel, by decide +kernel⟩
abbrev scLcellat_st : Stmt := top 23
abbrev scLcellat_N : List Str := ["_law_script", "_law_k"]
theorem scLcellat : FnScope scLcellat_N ["_law_script", "_law_k"] (defScope scLcellat_st) := ⟨rfl, rfl, rfl, by decide +kernel, rfl, by decide +kernel, by decide +kernel⟩
abbrev scLbox_st : Stmt := top 24
abbrev scLbox_N : List Str := ["_law_cell"]
theorem scLbox : FnScope scLbox_N ["_law_cell"] (defScope scLbox_st) := ⟨rfl, rfl, rfl, by decide +kernel, rfl, by decide +kernel, by decide +kernel⟩
abbrev scLtake_st : Stmt := top 25
abbrev scLtake_N : List Str := ["_law_box_here", "_law_many", "_law_number"]
theorem scLtake : FnScope scLtake_N ["_law_box_here", "_law_many"] (defScope scLtake_st) := ⟨rfl, rfl, rfl, by decide +kernel, rfl, by decide +kernel, by decide +kernel⟩
abbrev scLstretches_st : Stmt := top 26
abbrev scLstretches_N : List Str := ["_law_box_here", "_law_most", "_law_found", "_law_k", "_law_begin", "_law_wide"]
theorem scLstretches : FnScope scLstretches_N ["_law_box_here", "_law_most"] (defScope scLstretches_st) := ⟨rfl, rfl, rfl, by decide +kernel, rfl, by decide +kernel, by decide +kernel⟩
abbrev scLrising_st : Stmt := top 27
abbrev scLrising_N : List Str := ["_law_marks_here", "_law_found", "_law_number"]
theorem scLrising : FnScope scLrising_N ["_law_marks_here"] (defScope scLrising_st) := ⟨rfl, rfl, rfl, by decide +kernel, rfl, by decide +kernel, by decide +kernel⟩
abbrev scLmarks_st : Stmt := top 28
abbrev scLmarks_N : List Str := ["_law_stretches_here", "_law_marks_here", "_law_begin", "_law_end", "_law_number"]
theorem scLmarks : FnScope scLmarks_N ["_law_stretches_here"] (defScope scLmarks_st) := ⟨rfl, rfl, rfl, by decide +kernel, rfl, by decide +kernel, by decide +kernel⟩
abbrev scLmixed_st : Stmt := top 29
abbrev scLmixed_N : List Str := ["_law_box_here", "_law_some", "_law_left", "_law_found"]
theorem scLmixed : FnScope scLmixed_N ["_law_box_here", "_law_some"] (defScope scLmixed_st) := ⟨rfl, rfl, rfl, by decide +kernel, rfl, by decide +kernel, by decide +kernel⟩
abbrev scLright_st : Stmt := top 30
abbrev scLright_N : List Str := ["_law_box_here", "_law_found", "_law_due", "_law_numbers", "_law_turn", "_law_thing", "_law_told"]
theorem scLright : FnScope scLright_N ["_law_box_here", "_law_found", "_law_due", "_law_numbers"] (defScope scLright_st) := ⟨rfl, rfl, rfl, by decide +kernel, rfl, by decide +kernel, by decide +kernel⟩
abbrev sclaw_st : Stmt := top 31
abbrev sclaw_N : List Str := ["_law_script", "_law_k", "_law_box_here", "_law_some", "_law_marks_here", "_law_due", "_law_numbers", "_law_number", "_law_handed", "_law_kept", "_law_found", "_law_one", "_law_each", "_law_short", "_law_odd", "_law_singles"]
theorem sclaw : FnScope sclaw_N ["_law_script"] (defScope sclaw_st) := ⟨rfl, rfl, rfl, by decide +kernel, rfl, by decide +kernel, by decide +kernel⟩
/-- where the defs stand -/
structure Defs (K : PySem.W.Frag) (mg : Str → Option Value) where
  mask_between : Dn K mg "mask_between" scmaskbetween_st ["begin", "end"]
  mask_of : Dn K mg "mask_of" scmaskof_st ["runs"]
  first_in : Dn K mg "first_in" scfirstin_st ["mask"]
  runs_in : Dn K mg "runs_in" scrunsin_st ["mask"]
  is_whole : Dn K mg "is_whole" sciswhole_st ["thing"]
  is_within : Dn K mg "is_within" sciswithin_st ["thing", "low", "high"]
  is_span : Dn K mg "is_span" scisspan_st ["begin", "end", "most"]
  is_stretch : Dn K mg "is_stretch" scisstretch_st ["thing"]
  is_runs : Dn K mg "is_runs" scisruns_st ["thing"]
  runs_of : Dn K mg "runs_of" scrunsof_st ["stretches"]
  runs_by : Dn K mg "runs_by" scrunsby_st ["numbers"]
  how_many : Dn K mg "how_many" schowmany_st ["runs"]
  numbers_in : Dn K mg "numbers_in" scnumbersin_st ["runs"]
  has_number : Dn K mg "has_number" schasnumber_st ["runs", "thing"]
  _law_cell_at : Dn K mg "_law_cell_at" scLcellat_st ["_law_script", "_law_k"]
  _law_box : Dn K mg "_law_box" scLbox_st ["_law_cell"]
  _law_take : Dn K mg "_law_take" scLtake_st ["_law_box_here", "_law_many"]
  _law_stretches : Dn K mg "_law_stretches" scLstretches_st ["_law_box_here", "_law_most"]
  _law_rising : Dn K mg "_law_rising" scLrising_st ["_law_marks_here"]
  _law_marks : Dn K mg "_law_marks" scLmarks_st ["_law_stretches_here"]
  _law_mixed : Dn K mg "_law_mixed" scLmixed_st ["_law_box_here", "_law_some"]
  _law_right : Dn K mg "_law_right" scLright_st ["_law_box_here", "_law_found", "_law_due", "_law_numbers"]
  law : Dn K mg "law" sclaw_st ["_law_script"]
/-- what else the names of the top hold -/
structure Tx (K : PySem.W.Frag) (mg : Str → Option Value) where
  b_len : mg "len" = none
  b_range : mg "range" = none
  b_list : mg "list" = none
  b_isinstance : mg "isinstance" = none
  b_int : mg "int" = none
  b_tuple : mg "tuple" = none
  b_bool : mg "bool" = none
  b_max : mg "max" = none
  b_all : mg "all" = none
  b_repr : mg "repr" = none
  b_min : mg "min" = none
  b_reversed : mg "reversed" = none
  t_MOST_END : Tok
  g_MOST_END : mg "MOST_END" = some (.int 400 t_MOST_END)
def tx_mk {K : PySem.W.Frag} {mg : Str → Option Value} {t_MOST_END : Tok} (b_len : mg "len" = none) (b_range : mg "range" = none) (b_list : mg "list" = none) (b_isinstance : mg "isinstance" = none) (b_int : mg "int" = none) (b_tuple : mg "tuple" = none) (b_bool : mg "bool" = none) (b_max : mg "max" = none) (b_all : mg "all" = none) (b_repr : mg "repr" = none) (b_min : mg "min" = none) (b_reversed : mg "reversed" = none)
    (g_MOST_END : mg "MOST_END" = some (.int 400 t_MOST_END)) : Tx K mg := ⟨b_len, b_range, b_list, b_isinstance, b_int, b_tuple, b_bool, b_max, b_all, b_repr, b_min, b_reversed, t_MOST_END, g_MOST_END⟩
section
variable {P : Program} {w : World} {K : PySem.W.Frag} {mg : Str → Option Value} {base : Heap}
def spBetween : Sp := fun vs H Q _ => ∃ z : Pr, vs = [.int (z.1 : Int), .int (z.2 : Int)] ∧ z.1 ≤ z.2 ∧ z.2 ≤ 1000000 ∧ Q (.int (span z : Nat)) H
theorem ok_mask_between (D : Defs K mg) (T : Tx K mg) : FnOk P w K mg base CX0 1 D.mask_between.f D.mask_between.fd ["begin", "end"] spBetween := by
  refine D.mask_between.F.ok scmaskbetween (fun vs H Q E h => ?_) (fun cdv A outer s H vs Q E hr h => ?_)
  · obtain ⟨z, rfl, _⟩ := h
    rfl
  · obtain ⟨⟨b, e⟩, rfl, le, top, k⟩ := h
    have le : b ≤ e := le
    have top : e ≤ 1000000 := top
    refine ⟨_, (pss_one (ps_ret (pe_op op_sub (pe_op op_shl pe_int (pv 1)) (pe_op op_shl pe_int (pv 0))))), ?_⟩
    refine ⟨_, rfl, _, _, rfl, rfl, ⟨by omega, by omega, by decide⟩, _, rfl, _, _, rfl, rfl, ⟨by omega, by omega, by decide⟩, _, _, rfl, rfl, ?_⟩
    have p : 2 ^ b ≤ 2 ^ e := Nat.pow_le_pow_right (by decide) le
    have q : (1 : Int) * 2 ^ ((e : Int)).toNat - 1 * 2 ^ ((b : Int)).toNat = ((span (b, e) : Nat) : Int) := by
      show _ = ((2 ^ e - 2 ^ b : Nat) : Int)
      rw [Int.toNat_natCast, Int.toNat_natCast, Int.one_mul, Int.one_mul, ← PySem.W.kbt_cast, ← PySem.W.kbt_cast]
      omega
    show Q (.int ((1 : Int) * 2 ^ ((e : Int)).toNat - 1 * 2 ^ ((b : Int)).toNat)) H
    rw [q]
    exact k
/-- a list or a tuple of these stretches -/
def RowSq (H : Hp) (a : Addr) (r : List Pr) : Prop := ∃ qs : List Addr, (H a = some (.lst (qs.map V.ref)) ∨ H a = some (.tup (qs.map V.ref))) ∧ PrsAt H qs r
theorem RowAt.sq {H : Hp} {a : Addr} {r : List Pr} (h : RowAt H a r) : RowSq H a r := let ⟨qs, e, p⟩ := h; ⟨qs, .inl e, p⟩
theorem RowSq.keep {a : Addr} {H H' : Hp} {r : List Pr} (k : Keep H H') (h : RowSq H a r) : RowSq H' a r := by
  obtain ⟨qs, e, p⟩ := h
  refine ⟨qs, ?_, p.put fun q xs e => k _ _ (fun q z => by cases z) e⟩
  rcases e with e | e
  · exact .inl (k _ _ (fun q z => by cases z) e)
  · exact .inr (k _ _ (fun q z => by cases z) e)
def spMask (K : PySem.W.Frag) : Sp := fun vs H Q _ => ∃ (a : Addr) (r : List Pr), vs = [.ref a] ∧ RowSq H a r ∧ Valid r ∧ Q (.int (maskN r : Nat)) H
theorem ok_mask_of (D : Defs K mg) (T : Tx K mg) : FnOk P w K mg base CX0 2 D.mask_of.f D.mask_of.fd ["runs"] (spMask K) := by
  have Gmask_between := ok_mask_between (P := P) (w := w) (base := base) D T
  refine D.mask_of.F.ok scmaskof (fun vs H Q E h => ?_) (fun cdv A outer s H vs Q E hr h => ?_)
  · obtain ⟨a, r, rfl, _⟩ := h
    rfl
  · obtain ⟨a, r, rfl, ⟨qs, hq, pr⟩, va, k⟩ := h
    refine ⟨_, (pss_cons (ps_set (i := 1) scmaskof.nd rfl (Or.inl rfl) pe_int)
        (pss_cons (ps_for PassesOwn.never rfl (pi_seq (pv 0)) (pg_tup rfl (pgs_cons (pg_name (i := 2) scmaskof.nd rfl (Or.inl rfl)) (pgs_cons (pg_name (i := 3) scmaskof.nd rfl (Or.inl rfl)) pgs_nil))) (pss_one (ps_aug (i := 1) scmaskof.nd rfl (Or.inl rfl) (pcall D.mask_between Gmask_between hr (by decide) (by rfl) (pa_cons (pv 2) (pa_cons (pv 3) pa_nil))) iop_or)))
        (pss_one (ps_ret (pv 1))))), ?_⟩
    have step : ∀ (i : Nat) (x : V), (qs.map V.ref)[i]? = some x → ∃ q z, x = .ref q ∧ H q = some (.tup [.int (z.1 : Int), .int (z.2 : Int)]) ∧ z.1 < z.2 ∧ z.2 ≤ 400 ∧ maskN (r.take (i + 1)) = maskN (r.take i) ||| span z := by
      intro i x hx
      rw [List.getElem?_map] at hx
      cases hq' : qs[i]? with
      | none => rw [hq'] at hx; cases hx
      | some q =>
        rw [hq'] at hx
        obtain rfl : V.ref q = x := Option.some.inj hx
        obtain ⟨z, hz, hqt⟩ := pr.get hq'
        obtain ⟨z1, z2⟩ := va z (List.mem_of_getElem? hz)
        refine ⟨q, z, rfl, hqt, z1, z2, ?_⟩
        unfold maskN
        rw [List.take_add_one, hz, List.foldl_append]
        rfl
    refine ⟨_, rfl, a, rfl, ?_⟩
    rcases hq with ha | ha
    · refine .inl ⟨⟨_, SqL.of ha⟩, for_list (K := K) (a := a) (xs := qs.map V.ref) (fun i σ H' => H' = H ∧ ∃ v1 v2, σ = [some (.ref a), some (.int (maskN (r.take i) : Nat)), v1, v2])
        ⟨rfl, _, _, rfl⟩ (fun i σ H' _ q => by rw [q.1]; exact SqL.of ha) ?_ ?_⟩
      · rintro i x σ H' hx ⟨rfl, v1, v2, rfl⟩
        obtain ⟨q, z, rfl, hqt, z1, z2, e⟩ := step i x hx
        refine ⟨q, _, rfl, SqT.of hqt, rfl, _, _, rfl, _, _, rfl, rfl, ?_⟩
        refine ⟨_, rfl, _, rfl, _, rfl, z, rfl, by omega, by omega, ?_⟩
        refine ⟨_, _, rfl, rfl, rfl, some (.int (z.1 : Int)), some (.int (z.2 : Int)), ?_⟩
        show [some (V.ref a), some (V.int (Builtin.bitOr ((maskN (r.take i) : Nat) : Int) ((span z : Nat) : Int))), some (V.int (z.1 : Int)), some (V.int (z.2 : Int))] = _
        rw [or_masks, e]
      · rintro σ H' ⟨rfl, v1, v2, rfl⟩
        refine ⟨_, rfl, ?_⟩
        rw [List.length_map, pr.len, List.take_length]
        exact k
    · refine .inr ⟨⟨_, SqT.of ha⟩, for_tup (K := K) (a := a) (xs := qs.map V.ref) (fun i σ H' => H' = H ∧ ∃ v1 v2, σ = [some (.ref a), some (.int (maskN (r.take i) : Nat)), v1, v2])
        ⟨rfl, _, _, rfl⟩ (fun i σ H' _ q => by rw [q.1]; exact SqT.of ha) ?_ ?_⟩
      · rintro i x σ H' hx ⟨rfl, v1, v2, rfl⟩
        obtain ⟨q, z, rfl, hqt, z1, z2, e⟩ := step i x hx
        refine ⟨q, _, rfl, SqT.of hqt, rfl, _, _, rfl, _, _, rfl, rfl, ?_⟩
        refine ⟨_, rfl, _, rfl, _, rfl, z, rfl, by omega, by omega, ?_⟩
        refine ⟨_, _, rfl, rfl, rfl, some (.int (z.1 : Int)), some (.int (z.2 : Int)), ?_⟩
        show [some (V.ref a), some (V.int (Builtin.bitOr ((maskN (r.take i) : Nat) : Int) ((span z : Nat) : Int))), some (V.int (z.1 : Int)), some (V.int (z.2 : Int))] = _
        rw [or_masks, e]
      · rintro σ H' ⟨rfl, v1, v2, rfl⟩
        refine ⟨_, rfl, ?_⟩
        rw [List.length_map, pr.len, List.take_length]
        exact k
def spFirst : Sp := fun vs H Q _ => ∃ (i : Int) (n : Nat), vs = [.int i] ∧ Low i n ∧ Q (.int (n : Int)) H
theorem ok_first_in (D : Defs K mg) (T : Tx K mg) : FnOk P w K mg base CX0 1 D.first_in.f D.first_in.fd ["mask"] spFirst := by
  refine D.first_in.F.ok scfirstin (fun vs H Q E h => ?_) (fun cdv A outer s H vs Q E hr h => ?_)
  · obtain ⟨i, n, rfl, _⟩ := h
    rfl
  · obtain ⟨i, n, rfl, lo, k⟩ := h
    refine ⟨_, (pss_one (ps_ret (pe_op op_sub (pe_bits (pe_op op_and (pv 0) (pe_un un_neg (pv 0)))) pe_int))), ?_⟩
    refine ⟨_, rfl, _, rfl, _, rfl, _, _, rfl, rfl, ?_⟩
    refine ⟨_, rfl, _, _, rfl, rfl, ?_⟩
    rw [lo.bits, bits_pow]
    have e : ((n + 1 : Nat) : Int) - 1 = (n : Int) := by omega
    show Q (.int (((n + 1 : Nat) : Int) - 1)) H
    rw [e]
    exact k
/-- the tidy row of a mask's numbers, new -/
def spRunsIn (tb : Addr) : Sp := fun vs H Q _ => ∃ m : Nat, vs = [.int (m : Int)] ∧ m < 2 ^ 400 ∧ GxR.TabG H tb ∧
  ∀ (r : List Pr) (p : Addr) (H' : Hp), Tidy r → (∀ n, has r n = m.testBit n) → Nw tb H H' → H p = none → RowAt H' p r → Q (.ref p) H'
theorem ok_runs_in (D : Defs K mg) (T : Tx K mg) {tb : Addr} : FnOk P w K mg base CX0 2 D.runs_in.f D.runs_in.fd ["mask"] (spRunsIn tb) := by
  have Gfirst_in := ok_first_in (P := P) (w := w) (base := base) D T
  refine D.runs_in.F.ok scrunsin (fun vs H Q E h => ?_) (fun cdv A outer s H vs Q E hr h => ?_)
  · obtain ⟨m, rfl, _⟩ := h
    rfl
  · obtain ⟨m, rfl, top, tab, k⟩ := h
    have bits : ∀ n, m.testBit n = true → n < 400 := fun n q => by
      rcases Nat.lt_or_ge n 400 with l | l
      · exact l
      · rw [Nat.testBit_lt_two_pow (Nat.lt_of_lt_of_le top (Nat.pow_le_pow_right (by decide) l))] at q
        cases q
    refine ⟨_, (pss_cons (ps_set (i := 1) scrunsin.nd rfl (Or.inl rfl) (pe_lst pa_nil))
        (pss_cons (ps_set (i := 2) scrunsin.nd rfl (Or.inl rfl) pe_int)
        (pss_cons (ps_while PassesOwn.never (pt_tru (pe_op op_shr (pv 0) (pv 2))) (pss_cons (ps_set (i := 3) scrunsin.nd rfl (Or.inl rfl) (pe_op op_add (pv 2) (pcall D.first_in Gfirst_in hr (by decide) (by rfl) (pa_cons (pe_op op_shr (pv 0) (pv 2)) pa_nil))))
        (pss_cons (ps_set (i := 2) scrunsin.nd rfl (Or.inl rfl) (pe_op op_add (pv 3) (pcall D.first_in Gfirst_in hr (by decide) (by rfl) (pa_cons (pe_un un_inv (pe_op op_shr (pv 0) (pv 3))) pa_nil))))
        (pss_one (ps_expr (pe_bm PySem.F.plainAttrs_list PySem.F.slot_list_append PySem.F.type_list_append mt_append (pv 1) (pa_cons (pe_tup (pa_cons (pv 3) (pa_cons (pv 2) pa_nil))) pa_nil)))))))
        (pss_one (ps_ret (pv 1)))))), ?_⟩
    refine ⟨(by show 0 ≤ sizeLine; decide), fun p hp => ?_⟩
    refine while_by (fun σ H' => ∃ (e : Nat) (r : List Pr) (v : Option V), σ = [some (.int (m : Int)), some (.ref p), some (.int (e : Int)), v] ∧ e ≤ 400 ∧ Tidy r ∧ (∀ z ∈ r, z.2 ≤ e) ∧ (∀ n, n < e → has r n = m.testBit n) ∧
        (r ≠ [] → m.testBit e = false) ∧ Nw tb H H' ∧ RowAt H' p r) (fun σ _ => match σ with | [_, _, some (.int e), _] => 400 - e.toNat | _ => 0)
      ⟨0, [], none, rfl, by omega, trivial, (fun z hz => nomatch hz), (fun n hn => absurd hn (Nat.not_lt_zero n)), (fun z => absurd rfl z), (Nw.refl tab).new hp, ⟨[], upd_same, .nil⟩⟩ ?_ (fun σ H Q Q' mono => ?_)
    · rintro σ H' ⟨e, r, v, rfl, e4, ti, lo, ha, gap, nw, row⟩
      refine ⟨_, rfl, _, rfl, _, _, rfl, rfl, Int.natCast_nonneg e, ?_⟩
      have sh : (m : Int) / 2 ^ ((e : Int)).toNat = ((m / 2 ^ e : Nat) : Int) := by
        rw [Int.toNat_natCast, ← PySem.W.kbt_cast]
        rfl
      show ∃ k, TruV _ (.int ((m : Int) / 2 ^ ((e : Int)).toNat)) _ k ∧ _
      rw [sh]
      by_cases z : m / 2 ^ e = 0
      · refine ⟨false, ?_, iteF ?_⟩
        · rw [z]; rfl
        · refine ⟨_, rfl, k r p H' ti (fun n => ?_) nw hp row⟩
          by_cases l : n < e
          · exact ha n l
          · rw [no_more z n (by omega)]
            cases q : has r n with
            | false => rfl
            | true =>
              obtain ⟨y, hy, q⟩ := List.any_eq_true.mp q
              have q := of_decide_eq_true (Bool.and_eq_true_iff.mp q).2
              have := lo y hy
              omega
      · obtain ⟨j, low1, set1, out1⟩ := low_of z
        obtain ⟨i, i0, low2, out2, set2⟩ := low_not set1
        refine ⟨true, ?_, iteT ?_⟩
        · show true = (((m / 2 ^ e : Nat) : Int) != 0)
          have : ((m / 2 ^ e : Nat) : Int) ≠ 0 := fun y => z (Int.ofNat.inj y)
          exact (bne_iff_ne.mpr this).symm
        have b4 := bits _ set1
        have e5 := bits (e + j + (i - 1)) (set2 _ (by omega) (by omega))
        refine ⟨_, rfl, _, rfl, _, rfl, _, _, rfl, rfl, Int.natCast_nonneg e, ?_⟩
        have q1 : (e : Int) + (j : Int) = ((e + j : Nat) : Int) := by omega
        have sh2 : (m : Int) / 2 ^ ((e : Int) + (j : Int)).toNat = ((m / 2 ^ (e + j) : Nat) : Int) := by
          rw [q1, Int.toNat_natCast, ← PySem.W.kbt_cast]
          rfl
        refine ⟨_, j, congrArg (fun y : Int => [V.int y]) sh, low1, _, _, rfl, rfl, ?_⟩
        refine ⟨_, rfl, _, rfl, _, rfl, _, _, rfl, rfl, (by omega : (0 : Int) ≤ (e : Int) + (j : Int)), _, rfl, ?_⟩
        refine ⟨_, i, congrArg (fun y : Int => [V.int (Builtin.bitNot y)]) sh2, low2, _, _, rfl, rfl, ?_⟩
        have q2 : (e : Int) + (j : Int) + (i : Int) = ((e + j + i : Nat) : Int) := by omega
        obtain ⟨qs, hq, pr⟩ := id row
        refine ⟨_, rfl, .inl ⟨rfl, _, SqL.of hq⟩, _, rfl, _, rfl, (by show 2 ≤ sizeLine; decide), fun t ht => ?_⟩
        have nt := ne_of_none hq ht
        have hr4 : r.length ≤ 201 := ti.len
        refine ⟨p, _, _, rfl, rfl, (by rw [upd_ne nt]; exact hq), ?_, ?_⟩
        · rw [List.length_map, pr.len]
          have := PySem.sizeLine_eq
          omega
        refine ⟨⟨e + j + i, r ++ [(e + j, e + j + i)], _, rfl, by omega, ti.app (fun y hy => ?_) (by omega) (by omega), fun y hy => ?_, fun n hn => ?_, fun _ => out2, ?_, qs ++ [t], ?_, ?_⟩, ?_⟩
        · rcases Nat.lt_or_ge y.2 (e + j) with l | l
          · exact l
          · have := lo y hy
            have g := gap (fun q => by rw [q] at hy; cases hy)
            have : e + j = e := by omega
            rw [this, g] at set1
            cases set1
        · rcases List.mem_append.mp hy with hy | hy
          · have := lo y hy
            omega
          · rw [List.mem_singleton.mp hy]
            exact Nat.le_refl _
        · rw [has_app, has_one]
          by_cases l : n < e
          · rw [ha n l, decide_eq_false (show ¬ e + j ≤ n by omega), Bool.false_and, Bool.or_false]
          · have no : has r n = false := by
              cases q : has r n with
              | false => rfl
              | true =>
                obtain ⟨y, hy, q⟩ := List.any_eq_true.mp q
                have q := of_decide_eq_true (Bool.and_eq_true_iff.mp q).2
                have := lo y hy
                omega
            rw [no, Bool.false_or]
            by_cases l2 : n < e + j
            · rw [out1 n (by omega) l2, decide_eq_false (show ¬ e + j ≤ n by omega), Bool.false_and]
            · rw [set2 n (by omega) hn, decide_eq_true (show e + j ≤ n by omega), decide_eq_true hn]
              rfl
        · refine (nw.new ht).put hp (o := .lst (qs.map V.ref)) (by rw [upd_ne nt]; exact hq) (fun q z => by cases z)
        · rw [List.map_append]
          exact upd_same
        · refine (pr.put fun q xs e => ?_).app (.cons ?_ .nil)
          · rw [upd_ne (ne_of e hq (by intro z; cases z)), upd_ne (ne_of_none e ht)]
            exact e
          · rw [upd_ne nt.symm]
            exact upd_same
        · show 400 - (((e + j + i : Nat) : Int)).toNat < 400 - ((e : Int)).toNat
          omega
    · intro h
      obtain ⟨v1, hx, v2, hy, a, b, e1, e2, c, k, tr, q⟩ := h
      exact ⟨v1, hx, v2, hy, a, b, e1, e2, c, k, tr, mono _ _ q⟩
end
end LL
namespace LL
open PySem PySem.Spec PyProof.Rows L2
section
variable {P : Program} {w : World} {K : PySem.W.Frag} {mg : Str → Option Value} {base : Heap} {c tb : Addr}
def spWhole (K : PySem.W.Frag) : Sp := fun vs H Q _ => ∃ x, vs = [x] ∧ Thing K H x ∧ Q (.bl (isInt x)) H
theorem ok_is_whole (D : Defs K mg) (T : Tx K mg) : FnOk P w K mg base CX0 1 D.is_whole.f D.is_whole.fd ["thing"] (spWhole K) := by
  refine D.is_whole.F.ok sciswhole (fun vs H Q E h => ?_) (fun cdv A outer s H vs Q E hr h => ?_)
  · obtain ⟨x, rfl, _⟩ := h
    rfl
  · obtain ⟨x, rfl, th, k⟩ := h
    refine ⟨_, (pss_one (ps_ret (pe_and (pe_callB call_is_int (by rfl) T.b_isinstance (by decide +kernel) (pa_cons (pv 0) (pa_cons (pe_bltn (v := .ty "int") (u := .type "int") (by rfl) T.b_int (by decide +kernel) rfl) pa_nil))) (pe_one (pe_not (pe_callB call_is_bool (by rfl) T.b_isinstance (by decide +kernel) (pa_cons (pv 0) (pa_cons (pe_bltn (v := .ty "bool") (u := .type "bool") (by rfl) T.b_bool (by decide +kernel) rfl) pa_nil)))))))), ?_⟩
    refine ⟨_, rfl, _, rfl, th, _, rfl, ?_⟩
    cases th with
    | int i => exact iteT ⟨_, rfl, _, rfl, .int i, _, rfl, k⟩
    | bl b => exact iteT ⟨_, rfl, _, rfl, .bl b, _, rfl, k⟩
    | _ => exact iteF k
def spWithin (K : PySem.W.Frag) : Sp := fun vs H Q _ => ∃ x lo hi, vs = [x, .int lo, .int hi] ∧ Thing K H x ∧ Q (.bl (within x lo hi)) H
theorem ok_is_within (D : Defs K mg) (T : Tx K mg) : FnOk P w K mg base CX0 2 D.is_within.f D.is_within.fd ["thing", "low", "high"] (spWithin K) := by
  have Gis_whole := ok_is_whole (P := P) (w := w) (base := base) D T
  refine D.is_within.F.ok sciswithin (fun vs H Q E h => ?_) (fun cdv A outer s H vs Q E hr h => ?_)
  · obtain ⟨x, lo, hi, rfl, _⟩ := h
    rfl
  · obtain ⟨x, lo, hi, rfl, th, k⟩ := h
    refine ⟨_, (pss_one (ps_ret (pe_and (pcall D.is_whole Gis_whole hr (by decide) (by rfl) (pa_cons (pv 0) pa_nil)) (pe_one (pe_chain op_le op_le (pv 1) (pv 0) (pv 2)))))), ?_⟩
    refine ⟨x, rfl, x, rfl, th, ⟨_, rfl, ?_⟩⟩
    cases th with
    | int i =>
      refine iteT ⟨_, rfl, _, rfl, _, _, rfl, rfl, _, rfl, ?_⟩
      by_cases h1 : lo ≤ i
      · rw [decide_eq_true h1]
        refine iteT ⟨_, rfl, _, _, rfl, rfl, ?_⟩
        have e : within (.int i) lo hi = decide (i ≤ hi) := by simp [within, h1]
        rw [e] at k
        exact k
      · rw [decide_eq_false h1]
        have e : within (.int i) lo hi = false := by simp [within, h1]
        rw [e] at k
        exact iteF k
    | _ => exact iteF k
def spSpan (K : PySem.W.Frag) : Sp := fun vs H Q _ => ∃ (y z : V) (most : Nat), vs = [y, z, .int (most : Int)] ∧ Thing K H y ∧ Thing K H z ∧ Q (.bl (spanV y z most)) H
theorem ok_is_span (D : Defs K mg) (T : Tx K mg) : FnOk P w K mg base CX0 3 D.is_span.f D.is_span.fd ["begin", "end", "most"] (spSpan K) := by
  have Gis_within := ok_is_within (P := P) (w := w) (base := base) D T
  refine D.is_span.F.ok scisspan (fun vs H Q E h => ?_) (fun cdv A outer s H vs Q E hr h => ?_)
  · obtain ⟨y, z, m, rfl, _⟩ := h
    rfl
  · obtain ⟨y, z, m, rfl, ty, tz, k⟩ := h
    refine ⟨_, (pss_one (ps_ret (pe_and (pcall D.is_within Gis_within hr (by decide) (by rfl) (pa_cons (pv 0) (pa_cons pe_int (pa_cons (pv 2) pa_nil)))) (pe_one (pcall D.is_within Gis_within hr (by decide) (by rfl) (pa_cons (pv 1) (pa_cons (pe_op op_add (pv 0) pe_int) (pa_cons (pv 2) pa_nil)))))))), ?_⟩
    refine ⟨_, rfl, _, rfl, _, _, _, rfl, ty, _, rfl, ?_⟩
    cases ty with
    | int b =>
      have e : spanV (.int b) z m = (within (.int b) 0 m && within z (b + 1) m) := rfl
      rw [e] at k
      cases q : within (.int b) 0 m with
      | false =>
        rw [q] at k
        exact iteF k
      | true =>
        rw [q, Bool.true_and] at k
        exact iteT ⟨_, rfl, _, rfl, _, _, rfl, rfl, _, rfl, _, _, _, rfl, tz, k⟩
    | _ => exact iteF k
def spStretch (K : PySem.W.Frag) : Sp := fun vs H Q _ => ∃ (x : V) (b : Bool), vs = [x] ∧ StB K H x b ∧ Q (.bl b) H
theorem ok_is_stretch (D : Defs K mg) (T : Tx K mg) : FnOk P w K mg base CX0 4 D.is_stretch.f D.is_stretch.fd ["thing"] (spStretch K) := by
  have Gis_span := ok_is_span (P := P) (w := w) (base := base) D T
  refine D.is_stretch.F.ok scisstretch (fun vs H Q E h => ?_) (fun cdv A outer s H vs Q E hr h => ?_)
  · obtain ⟨x, b, rfl, _⟩ := h
    rfl
  · obtain ⟨x, b, rfl, st, k⟩ := h
    refine ⟨_, (pss_one (ps_ret (pe_and (pe_callB call_is_tuple (by rfl) T.b_isinstance (by decide +kernel) (pa_cons (pv 0) (pa_cons (pe_bltn (v := .ty "tuple") (u := .type "tuple") (by rfl) T.b_tuple (by decide +kernel) rfl) pa_nil))) (pe_and (pe_cmpR op_eq (pe_callB call_len_seq (by rfl) T.b_len (by decide +kernel) (pa_cons (pv 0) pa_nil)) pe_int (nomark _)) (pe_one (pcall D.is_span Gis_span hr (by decide) (by rfl) (pa_cons (pe_ix ix_tup (pv 0) pe_int (fun _ _ => rfl)) (pa_cons (pe_ix ix_tup (pv 0) pe_int (fun _ _ => rfl)) (pa_cons (pe_glob (v := .int 400) (by rfl) T.g_MOST_END ⟨_, rfl⟩) pa_nil))))))))), ?_⟩
    cases st with
    | other h => exact ⟨_, rfl, _, _, rfl, h, _, rfl, iteF k⟩
    | wrong h n =>
      refine ⟨_, rfl, _, _, rfl, .tup (tyX_t h), _, rfl, iteT ⟨_, rfl, _, _, rfl, .inr (SqT.of h), rfl, _, rfl, ?_⟩⟩
      rw [decide_eq_false (fun z => n (by injection z with z; omega))]
      exact iteF k
    | @pair q y z h ty tz =>
      refine ⟨_, rfl, _, _, rfl, .tup (tyX_t h), _, rfl, iteT ⟨_, rfl, _, _, rfl, .inr (SqT.of h), rfl, _, rfl, ?_⟩⟩
      refine iteT ⟨_, rfl, q, _, _, _, rfl, rfl, SqT.of h, atT0 _ _, _, rfl, q, _, _, _, rfl, rfl, SqT.of h, atT1 _ _ _, ?_⟩
      exact ⟨_, _, 400, rfl, ty, tz, k⟩
end
end LL
namespace LL
open PySem PySem.Spec PyProof.Rows L2
def genR : Stmt → Scope
  | .If (.BoolOp _ [_, .UnaryOp _ (.Call _ [.GeneratorExp _ _ sc _] _ _) _] _) _ _ _ => sc
  | _ => { kind := .function, names := [], isGenerator := false, isCoroutine := false }
abbrev gscR : Scope := genR ((defBody scisruns_st).getD 0 (.Pass ⟨0, 0, 0, 0⟩))
theorem gscR_names : gscR.names = [((".0" : Str), NameKind.local), (("stretch" : Str), NameKind.local), (("is_stretch" : Str), NameKind.globalImplicit)] := by decide +kernel
theorem genR_ok {env : Env} : GxR.GenS env gscR "stretch" := by
  refine ⟨by decide +kernel, by decide +kernel, ?_, by decide +kernel, by decide +kernel, ?_⟩
  · rw [gscR_names]
    decide +kernel
  · rw [gscR_names]
    intro y hy e
    simp only [List.mem_cons, List.not_mem_nil, or_false] at hy
    rcases hy with rfl | rfl | rfl <;> cases e
section
variable {P : Program} {w : World} {K : PySem.W.Frag} {mg : Str → Option Value} {base : Heap} {c tb : Addr}
def spIsRuns (K : PySem.W.Frag) (tb : Addr) : Sp := fun vs H Q _ => ∃ (x : V) (b : Bool), vs = [x] ∧ RunsB K H x b ∧ GxR.TabG H tb ∧ ∀ H', Nw tb H H' → Q (.bl b) H'
theorem ok_is_runs (D : Defs K mg) (T : Tx K mg) (hc : D.is_runs.fd.code = .ref c) (TB : GxR.TabB base mg c tb) : FnOk P w K mg base CX0 8 D.is_runs.f D.is_runs.fd ["thing"] (spIsRuns K tb) := by
  have Gruns_in := ok_runs_in (P := P) (w := w) (base := base) D T (tb := tb)
  have Gmask_of := ok_mask_of (P := P) (w := w) (base := base) D T
  have Gis_stretch := ok_is_stretch (P := P) (w := w) (base := base) D T
  refine okC D.is_runs.F hc scisruns (fun vs H Q E h => ?_) (fun A outer s H vs Q E hr h => ?_)
  · obtain ⟨x, b, rfl, _⟩ := h
    rfl
  · obtain ⟨x, b, rfl, ru, tab, k⟩ := h
    have GS := genR_ok (env := envOfC "is_runs" (defScope scisruns_st) s.heap.objs.size D.is_runs.f (.ref c))
    have hcode : (cxOf CX0 P w K mg base scisruns_N "is_runs" (defScope scisruns_st) D.is_runs.f (.ref c) A outer s H E).nox.env.code = .ref c := rfl
    refine ⟨_, (pss_cons (ps_if (PW.pt (pw_or (pt_not (pt_val (pe_callB call_is_list (by rfl) T.b_isinstance (by decide +kernel) (pa_cons (pv 0) (pa_cons (pe_bltn (v := .ty "list") (u := .type "list") (by rfl) T.b_list (by decide +kernel) rfl) pa_nil))))) (pw_or1 (pt_not (pt_val (pe_allL false (k := 4) [] hr (by rfl) T.b_all (by decide +kernel) TB hcode GS (pv 0) (by decide) (fun q hq => by cases hq) (fun cv s H ia A hrA => pcall D.is_stretch Gis_stretch hrA (by decide) (by rfl) (pa_cons (pv 0) pa_nil)) (fun _ => rfl))))))) (pss_one (ps_ret pe_bl)) pss_nil)
        (pss_one (ps_ret (pe_cmpR (op_eqD hr.units) (pcall D.runs_in Gruns_in hr (by decide) (by rfl) (pa_cons (pcall D.mask_of Gmask_of hr (by decide) (by rfl) (pa_cons (pv 0) pa_nil)) pa_nil)) (pv 0) (nomark _))))), ?_⟩
    -- the walk over the items
    have turn : ∀ (xs : List V) (bs : List Bool), StBs K H xs bs → ∀ (i : Nat) (v : V) (H' : Hp) (Q' : Hp → Prop), xs[i]? = some v → (GxR.Tabbed tb H H' ∧ ∀ j, j < i → bs[j]? = some true) →
        (bs.all id = false → Q' H') →
        (tCall (spStretch K) [] E0 (tCons (tVar 0) tNil)) [some v] H' fun y H'' => ∃ b, y = .bl b ∧ if b = true then (GxR.Tabbed tb H H'' ∧ ∀ j, j < i + 1 → bs[j]? = some true) else Q' H'' := by
      intro xs bs sts i v H' Q' hv ⟨t2, up⟩ no
      obtain ⟨b, hb, st⟩ := sts.get hv
      refine ⟨_, rfl, v, b, rfl, st.keep (Nw.of tab t2).keep, b, rfl, ?_⟩
      cases b with
      | true =>
        refine iteT ⟨t2, fun j hj => ?_⟩
        rcases Nat.lt_succ_iff_lt_or_eq.mp hj with l | rfl
        · exact up j l
        · exact hb
      | false =>
        refine iteF (no ?_)
        rw [List.all_eq_false]
        exact ⟨false, List.mem_of_getElem? hb, by simp⟩
    cases ru with
    | other h => exact ⟨_, rfl, _, _, rfl, h, _, rfl, iteT (k H (Nw.refl tab))⟩
    | @wrong a xs bs h sts n =>
      refine ⟨_, rfl, _, _, rfl, .lst (tyX_l h), _, rfl, iteF ?_⟩
      refine ⟨_, rfl, a, xs, rfl, SqL.of h, tab, fun i H' => GxR.Tabbed tb H H' ∧ ∀ j, j < i → bs[j]? = some true, fun H2 t2 => ⟨t2, fun j hj => absurd hj (Nat.not_lt_zero j)⟩,
        fun i H' p => SqL.of ((Nw.of tab p.1).lst h), fun i v H' hv p => turn xs bs sts i v H' _ hv p fun _ => ?_, fun H' p => ?_⟩
      · exact ⟨_, rfl, iteT (k _ (Nw.of tab p.1))⟩
      · exfalso
        rw [List.all_eq_false] at n
        obtain ⟨b, hb, nb⟩ := n
        obtain ⟨j, hj⟩ := List.mem_iff_getElem?.mp hb
        have := p.2 j (by rw [sts.len]; exact (List.getElem?_eq_some_iff.mp hj).1)
        rw [hj] at this
        cases this
        exact nb rfl
    | @row a r h v =>
      obtain ⟨qs, ha, pr⟩ := id h
      have sts := pr.sts (K := K) v
      refine ⟨_, rfl, _, _, rfl, .lst (tyX_l ha), _, rfl, iteF ?_⟩
      refine ⟨_, rfl, a, _, rfl, SqL.of ha, tab, fun i H' => GxR.Tabbed tb H H' ∧ ∀ j, j < i → (r.map fun _ => true)[j]? = some true, fun H2 t2 => ⟨t2, fun j hj => absurd hj (Nat.not_lt_zero j)⟩,
        fun i H' p => SqL.of ((Nw.of tab p.1).lst ha), fun i v H' hv p => turn _ _ sts i v H' _ hv p fun z => ?_, fun H' p => ?_⟩
      · exfalso
        rw [List.all_eq_false] at z
        obtain ⟨b, hb, nb⟩ := z
        obtain ⟨_, _, rfl⟩ := List.mem_map.mp hb
        exact nb rfl
      · have n1 := Nw.of tab p.1
        refine ⟨_, rfl, iteF ?_⟩
        refine ⟨_, rfl, a, r, rfl, (h.nw n1).sq, v, maskN r, rfl, mask_lt v, n1.tab, fun c' p' H2 tc hh nw hp row => ?_⟩
        have n2 := n1.trans nw
        refine ⟨_, rfl, rowDat c', rowDat r, row.dp, (h.nw n2).dp, rowDat_shaped _, rowDat_shaped _, ?_⟩
        have e : PyData.eqv (rowDat c') (rowDat r) = decide (Tidy r) := by
          rw [rowDat_eqv, decide_eq_decide]
          constructor
          · intro z
            rw [← z]
            exact tc
          · intro z
            exact tidy_eq tc z fun n => by rw [hh, mask_bit v]
        rw [e]
        exact k H2 n2
def spRunsOf (K : PySem.W.Frag) (tb : Addr) : Sp := fun vs H Q _ => ∃ (a : Addr) (r : List Pr), vs = [.ref a] ∧ RowSq H a r ∧ Valid r ∧ GxR.TabG H tb ∧
  ∀ (t : List Pr) (p : Addr) (H' : Hp), Tidy t → (∀ n, has t n = has r n) → Nw tb H H' → H p = none → RowAt H' p t → Q (.ref p) H'
theorem isSeq_of {K : PySem.W.Frag} {H : Hp} {a : Addr} {xs : List V} (h : H a = some (.lst xs) ∨ H a = some (.tup xs)) : IsSeq K H (.ref a) true := by
  rcases h with h | h
  · exact .lst (tyX_l h)
  · exact .tup (tyX_t h)
theorem ok_runs_of (D : Defs K mg) (T : Tx K mg) : FnOk P w K mg base CX0 5 D.runs_of.f D.runs_of.fd ["stretches"] (spRunsOf K tb) := by
  have Gruns_in := ok_runs_in (P := P) (w := w) (base := base) D T (tb := tb)
  have Gmask_of := ok_mask_of (P := P) (w := w) (base := base) D T
  have Gis_stretch := ok_is_stretch (P := P) (w := w) (base := base) D T
  refine D.runs_of.F.ok scrunsof (fun vs H Q E h => ?_) (fun cdv A outer s H vs Q E hr h => ?_)
  · obtain ⟨a, r, rfl, _⟩ := h
    rfl
  · obtain ⟨a, r, rfl, row, va, tab, k⟩ := h
    refine ⟨_, (pss_cons (ps_if (pt_not (pt_val (pe_callB call_is_seq (by rfl) T.b_isinstance (by decide +kernel) (pa_cons (pv 0) (pa_cons (pe_tup (pa_cons (pe_bltn (v := .ty "list") (u := .type "list") (by rfl) T.b_list (by decide +kernel) rfl) (pa_cons (pe_bltn (v := .ty "tuple") (u := .type "tuple") (by rfl) T.b_tuple (by decide +kernel) rfl) pa_nil))) pa_nil))))) (pss_one ps_never) pss_nil)
        (pss_cons (ps_for PassesOwn.never rfl (pi_seq (pv 0)) (pg_name (i := 1) scrunsof.nd rfl (Or.inl rfl)) (pss_one (ps_if (pt_not (pt_val (pcall D.is_stretch Gis_stretch hr (by decide) (by rfl) (pa_cons (pv 1) pa_nil)))) (pss_one ps_never) pss_nil)))
        (pss_one (ps_ret (pcall D.runs_in Gruns_in hr (by decide) (by rfl) (pa_cons (pcall D.mask_of Gmask_of hr (by decide) (by rfl) (pa_cons (pv 0) pa_nil)) pa_nil)))))), ?_⟩
    refine ⟨_, rfl, (by show 2 ≤ sizeLine; decide), fun tp htp => ?_⟩
    have n1 := (Nw.refl tab).new htp (u := .tup [.ty "list", .ty "tuple"])
    have row1 := row.keep n1.keep
    have e1 : (upd H tp (.tup [.ty "list", .ty "tuple"])) tp = some (.tup [.ty "list", .ty "tuple"]) := upd_same
    generalize upd H tp (.tup [.ty "list", .ty "tuple"]) = H1 at n1 row1 e1 ⊢
    obtain ⟨qs, hq, pr⟩ := id row1
    refine ⟨_, tp, _, rfl, e1, isSeq_of hq, _, rfl, iteF ?_⟩
    have each : ∀ (i : Nat) (x : V), (qs.map V.ref)[i]? = some x → StB K H1 x true := fun i x hx => by
      obtain ⟨b, hb, st⟩ := (pr.sts (K := K) va).get hx
      obtain ⟨_, _, rfl⟩ := List.mem_map.mp (List.mem_of_getElem? hb)
      exact st
    have after : spRunsIn tb [.int (maskN r : Nat)] H1 Q E := ⟨maskN r, rfl, mask_lt va, n1.tab, fun t p H' tt hh nw hp row' => k t p H' tt (fun n => by rw [hh, mask_bit va]) (n1.trans nw) (n1.free hp) row'⟩
    refine ⟨_, rfl, a, rfl, ?_⟩
    rcases hq with ha | ha
    · refine .inl ⟨⟨_, SqL.of ha⟩, for_list (K := K) (a := a) (xs := qs.map V.ref) (fun i σ H' => H' = H1 ∧ ∃ v1, σ = [some (.ref a), v1]) ⟨rfl, _, rfl⟩ (fun i σ H' _ q => by rw [q.1]; exact SqL.of ha) ?_ ?_⟩
      · rintro i x σ H' hx ⟨rfl, v1, rfl⟩
        exact ⟨_, rfl, x, true, rfl, each i x hx, _, rfl, iteF ⟨rfl, _, rfl⟩⟩
      · rintro σ H' ⟨rfl, v1, rfl⟩
        exact ⟨_, rfl, a, r, rfl, row1, va, after⟩
    · refine .inr ⟨⟨_, SqT.of ha⟩, for_tup (K := K) (a := a) (xs := qs.map V.ref) (fun i σ H' => H' = H1 ∧ ∃ v1, σ = [some (.ref a), v1]) ⟨rfl, _, rfl⟩ (fun i σ H' _ q => by rw [q.1]; exact SqT.of ha) ?_ ?_⟩
      · rintro i x σ H' hx ⟨rfl, v1, rfl⟩
        exact ⟨_, rfl, x, true, rfl, each i x hx, _, rfl, iteF ⟨rfl, _, rfl⟩⟩
      · rintro σ H' ⟨rfl, v1, rfl⟩
        exact ⟨_, rfl, a, r, rfl, row1, va, after⟩
/-- the mask of single numbers -/
def maskOn (ns : List Nat) : Nat := ns.foldl (fun m n => m ||| 2 ^ n) 0
theorem maskOn_fold : ∀ (ns : List Nat) (m n : Nat), (ns.foldl (fun m n => m ||| 2 ^ n) m).testBit n = (m.testBit n || decide (n ∈ ns))
  | [], m, n => by simp
  | x :: ns, m, n => by
    rw [List.foldl_cons, maskOn_fold ns, Nat.testBit_or, Nat.testBit_two_pow, Bool.or_assoc]
    congr 1
    rw [← Bool.decide_or, decide_eq_decide, List.mem_cons]
    constructor
    · rintro (h | h)
      · exact .inl h.symm
      · exact .inr h
    · rintro (h | h)
      · exact .inl h.symm
      · exact .inr h
theorem maskOn_bit (ns : List Nat) (n : Nat) : (maskOn ns).testBit n = decide (n ∈ ns) := by
  unfold maskOn
  rw [maskOn_fold, Nat.zero_testBit, Bool.false_or]
def spRunsBy (K : PySem.W.Frag) (tb : Addr) : Sp := fun vs H Q _ => ∃ (a : Addr) (ns : List Nat), vs = [.ref a] ∧ NumSq H a ns ∧ (∀ n ∈ ns, n < 400) ∧ GxR.TabG H tb ∧
  ∀ (t : List Pr) (p : Addr) (H' : Hp), Tidy t → (∀ n, has t n = decide (n ∈ ns)) → Nw tb H H' → H p = none → RowAt H' p t → Q (.ref p) H'
theorem ok_runs_by (D : Defs K mg) (T : Tx K mg) : FnOk P w K mg base CX0 3 D.runs_by.f D.runs_by.fd ["numbers"] (spRunsBy K tb) := by
  have Gruns_in := ok_runs_in (P := P) (w := w) (base := base) D T (tb := tb)
  have Gis_within := ok_is_within (P := P) (w := w) (base := base) D T
  refine D.runs_by.F.ok scrunsby (fun vs H Q E h => ?_) (fun cdv A outer s H vs Q E hr h => ?_)
  · obtain ⟨a, r, rfl, _⟩ := h
    rfl
  · obtain ⟨a, ns, rfl, nums, lt, tab, k⟩ := h
    refine ⟨_, (pss_cons (ps_if (pt_not (pt_val (pe_callB call_is_seq (by rfl) T.b_isinstance (by decide +kernel) (pa_cons (pv 0) (pa_cons (pe_tup (pa_cons (pe_bltn (v := .ty "list") (u := .type "list") (by rfl) T.b_list (by decide +kernel) rfl) (pa_cons (pe_bltn (v := .ty "tuple") (u := .type "tuple") (by rfl) T.b_tuple (by decide +kernel) rfl) pa_nil))) pa_nil))))) (pss_one ps_never) pss_nil)
        (pss_cons (ps_set (i := 1) scrunsby.nd rfl (Or.inl rfl) pe_int)
        (pss_cons (ps_for PassesOwn.never rfl (pi_seq (pv 0)) (pg_name (i := 2) scrunsby.nd rfl (Or.inl rfl)) (pss_cons (ps_if (pt_not (pt_val (pcall D.is_within Gis_within hr (by decide) (by rfl) (pa_cons (pv 2) (pa_cons pe_int (pa_cons (pe_op op_sub (pe_glob (v := .int 400) (by rfl) T.g_MOST_END ⟨_, rfl⟩) pe_int) pa_nil)))))) (pss_one ps_never) pss_nil)
        (pss_one (ps_aug (i := 1) scrunsby.nd rfl (Or.inl rfl) (pe_op op_shl pe_int (pv 2)) iop_or))))
        (pss_one (ps_ret (pcall D.runs_in Gruns_in hr (by decide) (by rfl) (pa_cons (pv 1) pa_nil))))))), ?_⟩
    refine ⟨_, rfl, (by show 2 ≤ sizeLine; decide), fun tp htp => ?_⟩
    have n1 := (Nw.refl tab).new htp (u := .tup [.ty "list", .ty "tuple"])
    have nums1 := nums.keep n1.keep
    have e1 : (upd H tp (.tup [.ty "list", .ty "tuple"])) tp = some (.tup [.ty "list", .ty "tuple"]) := upd_same
    generalize upd H tp (.tup [.ty "list", .ty "tuple"]) = H1 at n1 nums1 e1 ⊢
    refine ⟨_, tp, _, rfl, e1, isSeq_of nums1, _, rfl, iteF ?_⟩
    have step : ∀ (i : Nat) (x : V), (ns.map fun n : Nat => V.int (n : Int))[i]? = some x → ∃ n : Nat, x = .int (n : Int) ∧ n < 400 ∧ maskOn (ns.take (i + 1)) = maskOn (ns.take i) ||| 2 ^ n ∧ (1 : Int) * 2 ^ ((n : Int)).toNat = ((2 ^ n : Nat) : Int) := by
      intro i x hx
      rw [List.getElem?_map] at hx
      cases hq : ns[i]? with
      | none => rw [hq] at hx; cases hx
      | some n =>
        rw [hq] at hx
        refine ⟨n, (Option.some.inj hx).symm, lt n (List.mem_of_getElem? hq), ?_, ?_⟩
        · unfold maskOn
          rw [List.take_add_one, hq, List.foldl_append]
          rfl
        · rw [Int.toNat_natCast, Int.one_mul, ← PySem.W.kbt_cast]
    have after : spRunsIn tb [.int (maskOn ns : Nat)] H1 Q E := ⟨maskOn ns, rfl, lt_of_bits fun n z => lt n (by rw [maskOn_bit] at z; exact of_decide_eq_true z), n1.tab, fun t p H' tt hh nw hp row' => k t p H' tt (fun n => by rw [hh, maskOn_bit]) (n1.trans nw) (n1.free hp) row'⟩
    refine ⟨_, rfl, a, rfl, ?_⟩
    rcases nums1 with ha | ha
    · refine .inl ⟨⟨_, SqL.of ha⟩, for_list (K := K) (a := a) (xs := ns.map fun n : Nat => V.int (n : Int)) (fun i σ H' => H' = H1 ∧ ∃ v1, σ = [some (.ref a), some (.int (maskOn (ns.take i) : Nat)), v1]) ⟨rfl, _, rfl⟩ (fun i σ H' _ q => by rw [q.1]; exact SqL.of ha) ?_ ?_⟩
      · rintro i x σ H' hx ⟨rfl, v1, rfl⟩
        obtain ⟨n, rfl, lt', e, sh⟩ := step i x hx
        refine ⟨_, rfl, _, _, rfl, rfl, _, 0, 399, rfl, .int _, ?_⟩
        refine ⟨_, rfl, ?_⟩
        have ok : within (.int (n : Int)) 0 399 = true := by
          simp only [within, Bool.and_eq_true, decide_eq_true_eq]
          omega
        rw [ok]
        refine iteF ⟨_, rfl, _, rfl, _, _, rfl, rfl, ⟨by omega, by omega, by decide⟩, _, _, rfl, rfl, rfl, some (.int (n : Int)), ?_⟩
        show [some (V.ref a), some (V.int (Builtin.bitOr ((maskOn (ns.take i) : Nat) : Int) (1 * 2 ^ ((n : Int)).toNat))), some (V.int (n : Int))] = _
        rw [sh, or_masks, e]
      · rintro σ H' ⟨rfl, v1, rfl⟩
        refine ⟨_, rfl, ?_⟩
        rw [List.length_map, List.take_length]
        exact after
    · refine .inr ⟨⟨_, SqT.of ha⟩, for_tup (K := K) (a := a) (xs := ns.map fun n : Nat => V.int (n : Int)) (fun i σ H' => H' = H1 ∧ ∃ v1, σ = [some (.ref a), some (.int (maskOn (ns.take i) : Nat)), v1]) ⟨rfl, _, rfl⟩ (fun i σ H' _ q => by rw [q.1]; exact SqT.of ha) ?_ ?_⟩
      · rintro i x σ H' hx ⟨rfl, v1, rfl⟩
        obtain ⟨n, rfl, lt', e, sh⟩ := step i x hx
        refine ⟨_, rfl, _, _, rfl, rfl, _, 0, 399, rfl, .int _, ?_⟩
        refine ⟨_, rfl, ?_⟩
        have ok : within (.int (n : Int)) 0 399 = true := by
          simp only [within, Bool.and_eq_true, decide_eq_true_eq]
          omega
        rw [ok]
        refine iteF ⟨_, rfl, _, rfl, _, _, rfl, rfl, ⟨by omega, by omega, by decide⟩, _, _, rfl, rfl, rfl, some (.int (n : Int)), ?_⟩
        show [some (V.ref a), some (V.int (Builtin.bitOr ((maskOn (ns.take i) : Nat) : Int) (1 * 2 ^ ((n : Int)).toNat))), some (V.int (n : Int))] = _
        rw [sh, or_masks, e]
      · rintro σ H' ⟨rfl, v1, rfl⟩
        refine ⟨_, rfl, ?_⟩
        rw [List.length_map, List.take_length]
        exact after
/-- the numbers of a tidy row, a new list -/
def spNumbers (tb : Addr) : Sp := fun vs H Q _ => ∃ (a : Addr) (r : List Pr), vs = [.ref a] ∧ RowAt H a r ∧ Tidy r ∧ GxR.TabG H tb ∧
  ∀ (p : Addr) (H' : Hp), Nw tb H H' → H p = none → H' p = some (.lst ((numsOf r).map fun n : Nat => V.int (n : Int))) → Q (.ref p) H'
theorem ok_numbers_in (D : Defs K mg) (T : Tx K mg) (hc : D.is_runs.fd.code = .ref c) (TB : GxR.TabB base mg c tb) : FnOk P w K mg base CX0 9 D.numbers_in.f D.numbers_in.fd ["runs"] (spNumbers tb) := by
  have Gis_runs := ok_is_runs (P := P) (w := w) (base := base) D T hc TB
  refine D.numbers_in.F.ok scnumbersin (fun vs H Q E h => ?_) (fun cdv A outer s H vs Q E hr h => ?_)
  · obtain ⟨a, r, rfl, _⟩ := h
    rfl
  · obtain ⟨a, r, rfl, row, ti, tab, k⟩ := h
    have va := TidyFrom.valid (b := 0) ti
    refine ⟨_, (pss_cons (ps_if (pt_not (pt_val (pcall D.is_runs Gis_runs hr (by decide) (by rfl) (pa_cons (pv 0) pa_nil)))) (pss_one ps_never) pss_nil)
        (pss_one (ps_ret (pe_lc2 (own := [("begin", 1), ("end", 2), ("number", 3)]) (vs1 := [3]) rfl scnumbersin.nd (pi_list (pv 0)) (blkOk_by (N := scnumbersin_N) (sc := defScope scnumbersin_st) (by decide +kernel)) (by decide) (fun _ _ _ _ _ => (pg_tupK (K := K) (n := 2) rfl rfl (pgs_cons (pg_name (i := 1) scnumbersin.nd rfl (Or.inl rfl)) (pgs_cons (pg_name (i := 2) scnumbersin.nd rfl (Or.inl rfl)) pgs_nil)))) (fun _ _ _ _ _ => pts_nil) (fun _ _ _ _ _ => (pi_range2 rfl T.b_range (pa_cons (pv 1) (pa_cons (pv 2) pa_nil)))) (fun _ _ _ _ _ => (pg_name (i := 3) scnumbersin.nd rfl (Or.inl rfl))) (fun _ _ _ _ _ => pts_nil) (fun _ _ _ _ _ => (pv 3)))))), ?_⟩
    have ru : RunsB K H (.ref a) true := by
      have := RunsB.row (K := K) row va
      rw [decide_eq_true ti] at this
      exact this
    refine ⟨_, rfl, _, _, rfl, ru, tab, fun H1 n1 => ⟨_, rfl, iteF ?_⟩⟩
    obtain ⟨qs, ha, pr⟩ := row.nw n1
    refine ⟨_, rfl, a, rfl, ⟨_, SqL.of ha⟩, fun p hp => ?_⟩
    have np := ne_of_none ha hp
    have p0 := n1.free hp
    refine lc2_rows (K := K) (a := a) (xs := qs.map V.ref) (fun i H' => Nw tb H1 H' ∧ H' p = some (.lst (((List.range (upTo r i)).filter (has r)).map fun n : Nat => V.int (n : Int))))
      ⟨(Nw.refl n1.tab).new hp, ?_⟩ (fun i H' _ q => SqL.of (q.1.lst ha)) ?_ ?_
    · rw [upd_same, filt_gap (Nat.zero_le _) (fun n _ u => upTo_first ti n u)]
      rfl
    · rintro i x H2 hx ⟨n2, e2⟩
      rw [List.getElem?_map] at hx
      cases hq : qs[i]? with
      | none => rw [hq] at hx; cases hx
      | some q =>
        rw [hq] at hx
        obtain rfl : V.ref q = x := Option.some.inj hx
        obtain ⟨z, hz, hqt⟩ := pr.get hq
        obtain ⟨z1, z2⟩ := va z (List.mem_of_getElem? hz)
        obtain ⟨g1, g2⟩ := upTo_gap ti hz
        rw [upTo_in hz] at e2
        refine ⟨q, _, rfl, SqT.of (n2.tup hqt), rfl, _, _, rfl, _, _, rfl, rfl, rfl, ?_⟩
        refine ⟨_, rfl, _, rfl, _, _, rfl, ⟨by omega, by omega, by omega, by omega⟩, ?_⟩
        refine lc2_nums (lo := (z.1 : Int)) (n := ((z.2 : Int) - (z.1 : Int)).toNat) (fun j H' => Nw tb H1 H' ∧ H' p = some (.lst (((List.range (z.1 + j)).filter (has r)).map fun n : Nat => V.int (n : Int)))) ⟨n2, e2⟩ ?_ ?_
        · rintro j H3 hj ⟨n3, e3⟩
          have in_ := has_at hz (show z.1 ≤ z.1 + j by omega) (show z.1 + j < z.2 by omega)
          have len : ((List.range (z.1 + j)).filter (has r)).length ≤ z.1 + j := by
            have := List.length_filter_le (has r) (List.range (z.1 + j))
            rw [List.length_range] at this
            exact this
          refine ⟨rfl, _, rfl, _, e3, ?_, n3.put hp e3 (fun q z => by cases z), ?_⟩
          · rw [List.length_map]
            have := PySem.sizeLine_eq
            omega
          · rw [upd_same, ← Nat.add_assoc, filt_one in_, List.map_append]
            rfl
        · rintro H3 ⟨n3, e3⟩
          refine ⟨n3, ?_⟩
          rw [e3]
          congr 3
          rw [show z.1 + ((z.2 : Int) - (z.1 : Int)).toNat = z.2 by omega]
          exact (filt_gap g1 g2).symm
    · rintro H2 ⟨n2, e2⟩
      rw [List.length_map, pr.len, upTo_end] at e2
      exact k p H2 (n1.trans n2) p0 e2
def spHow (tb : Addr) : Sp := fun vs H Q _ => ∃ (a : Addr) (r : List Pr), vs = [.ref a] ∧ RowAt H a r ∧ Tidy r ∧ GxR.TabG H tb ∧ ∀ (H' : Hp), Nw tb H H' → Q (.int ((numsOf r).length : Nat)) H'
theorem ok_how_many (D : Defs K mg) (T : Tx K mg) (hc : D.is_runs.fd.code = .ref c) (TB : GxR.TabB base mg c tb) : FnOk P w K mg base CX0 10 D.how_many.f D.how_many.fd ["runs"] (spHow tb) := by
  have Gnumbers_in := ok_numbers_in (P := P) (w := w) (base := base) D T hc TB
  refine D.how_many.F.ok schowmany (fun vs H Q E h => ?_) (fun cdv A outer s H vs Q E hr h => ?_)
  · obtain ⟨a, r, rfl, _⟩ := h
    rfl
  · obtain ⟨a, r, rfl, row, ti, tab, k⟩ := h
    refine ⟨_, (pss_one (ps_ret (pe_callB call_len_seq (by rfl) T.b_len (by decide +kernel) (pa_cons (pcall D.numbers_in Gnumbers_in hr (by decide) (by rfl) (pa_cons (pv 0) pa_nil)) pa_nil)))), ?_⟩
    refine ⟨_, rfl, a, r, rfl, row, ti, tab, fun p H1 n1 _ e1 => ⟨p, _, rfl, .inl (SqL.of e1), ?_⟩⟩
    rw [List.length_map]
    exact k H1 n1
theorem flat_nums (ns : List Nat) : (ns.map fun n : Nat => V.int (n : Int)).all flatV = true := by
  rw [List.all_eq_true]
  intro x hx
  obtain ⟨n, _, rfl⟩ := List.mem_map.mp hx
  rfl
theorem inV_nums (i : Int) (ns : List Nat) : inV (.int i) (ns.map fun n : Nat => V.int (n : Int)) = decide (∃ n ∈ ns, (n : Int) = i) := by
  unfold inV
  rw [Bool.eq_iff_iff, List.any_eq_true, decide_eq_true_iff]
  constructor
  · rintro ⟨x, hx, e⟩
    obtain ⟨n, hn, rfl⟩ := List.mem_map.mp hx
    exact ⟨n, hn, by simpa [eqV] using e⟩
  · rintro ⟨n, hn, e⟩
    exact ⟨_, List.mem_map_of_mem hn, by simpa [eqV] using e⟩
def spHasNum (K : PySem.W.Frag) (tb : Addr) : Sp := fun vs H Q _ => ∃ (a : Addr) (r : List Pr) (x : V), vs = [.ref a, x] ∧ RowAt H a r ∧ Tidy r ∧ Thing K H x ∧ GxR.TabG H tb ∧
  ∀ (H' : Hp), Nw tb H H' → Q (.bl (match x with | .int i => decide (∃ n ∈ numsOf r, (n : Int) = i) | _ => false)) H'
theorem ok_has_number (D : Defs K mg) (T : Tx K mg) (hc : D.is_runs.fd.code = .ref c) (TB : GxR.TabB base mg c tb) : FnOk P w K mg base CX0 10 D.has_number.f D.has_number.fd ["runs", "thing"] (spHasNum K tb) := by
  have Gnumbers_in := ok_numbers_in (P := P) (w := w) (base := base) D T hc TB
  have Gis_whole := ok_is_whole (P := P) (w := w) (base := base) D T
  refine D.has_number.F.ok schasnumber (fun vs H Q E h => ?_) (fun cdv A outer s H vs Q E hr h => ?_)
  · obtain ⟨a, r, x, rfl, _⟩ := h
    rfl
  · obtain ⟨a, r, x, rfl, row, ti, th, tab, k⟩ := h
    refine ⟨_, (pss_cons (ps_set (i := 2) schasnumber.nd rfl (Or.inl rfl) (pcall D.numbers_in Gnumbers_in hr (by decide) (by rfl) (pa_cons (pv 0) pa_nil)))
        (pss_one (ps_ret (pe_and (pcall D.is_whole Gis_whole hr (by decide) (by rfl) (pa_cons (pv 1) pa_nil)) (pe_one (pe_cmpR op_in_seq (pv 1) (pv 2) (by rfl))))))), ?_⟩
    refine ⟨_, rfl, a, r, rfl, row, ti, tab, fun p H1 n1 _ e1 => ?_⟩
    refine ⟨_, rfl, x, rfl, th.keep n1.keep, _, rfl, ?_⟩
    cases th with
    | int i =>
      refine iteT ⟨_, rfl, _, rfl, p, _, rfl, .inl (SqL.of e1), rfl, ?_, ?_⟩
      · exact flat_nums _
      · have : Q (.bl (decide (∃ n ∈ numsOf r, (n : Int) = i))) H1 := k H1 n1
        rw [← inV_nums] at this
        exact this
    | _ => exact iteF (k H1 n1)
end
end LL
namespace LL
open PySem PySem.Spec PyProof.Rows L2
section
variable {P : Program} {w : World} {K : PySem.W.Frag} {mg : Str → Option Value} {base : Heap} {c tb : Addr}
def spCell (K : PySem.W.Frag) : Sp := fun vs H Q _ => ∃ (a : Addr) (k : Nat) (ns : List Int), vs = [.ref a, .int k] ∧ SqL K H a (ns.map V.int) ∧ ∀ i : Int, Q (.int i) H
theorem ok__law_cell_at (D : Defs K mg) (T : Tx K mg) : FnOk P w K mg base CX0 1 D._law_cell_at.f D._law_cell_at.fd ["_law_script", "_law_k"] (spCell K) := by
  refine D._law_cell_at.F.ok scLcellat (fun vs H Q E h => ?_) (fun cdv A outer s H vs Q E hr h => ?_)
  · obtain ⟨a, k, ns, rfl, _⟩ := h
    rfl
  · obtain ⟨a, j, ns, rfl, hS, k⟩ := h
    refine ⟨_, (pss_cons (ps_if (pt_cmpR op_lt (pv 1) (pe_callB call_len_seq (by rfl) T.b_len (by decide +kernel) (pa_cons (pv 0) pa_nil)) (nomark _)) (pss_one (ps_ret (pe_ix ix_list (pv 0) (pv 1) (fun _ _ => rfl)))) pss_nil)
        (pss_one (ps_ret (pe_op op_add (pe_op op_mul pe_int (pv 1)) pe_int)))), ?_⟩
    refine ⟨_, rfl, _, rfl, a, _, rfl, .inl hS, _, _, rfl, rfl, _, rfl, ?_⟩
    refine ite2 (fun y => ?_) (fun _ => ?_)
    · have hj : j < ns.length := by
        have := of_decide_eq_true y
        rw [List.length_map] at this
        omega
      refine ⟨_, rfl, _, rfl, a, _, _, _, rfl, rfl, hS, atI_nat (v := .int ns[j]) ?_, k _⟩
      rw [List.getElem?_map, List.getElem?_eq_getElem hj]
      rfl
    · exact ⟨_, rfl, _, _, rfl, rfl, .inl ⟨by decide, by decide⟩, _, _, rfl, rfl, k _⟩
def spBox : Sp := fun vs H Q _ => ∃ i : Int, vs = [.int i] ∧ ∀ p o, H p = none → BoxO o → Q (.ref p) (upd H p o)
theorem ok__law_box (D : Defs K mg) (T : Tx K mg) : FnOk P w K mg base CX0 1 D._law_box.f D._law_box.fd ["_law_cell"] spBox := by
  refine D._law_box.F.ok scLbox (fun vs H Q E h => ?_) (fun cdv A outer s H vs Q E hr h => ?_)
  · obtain ⟨i, rfl, _⟩ := h
    rfl
  · obtain ⟨i, rfl, k⟩ := h
    have m0 : 0 ≤ i % 2147483629 := Int.emod_nonneg _ (by decide)
    have m1 : i % 2147483629 < 2147483629 := Int.emod_lt_of_pos _ (by decide)
    refine ⟨_, (pss_cons (ps_if (pt_cmpR op_ge (pv 0) (pe_op op_pow pe_int pe_int) (nomark _)) (pss_one (ps_ret (pe_lst (pa_cons (pv 0) (pa_cons (pe_op op_mod (pv 0) pe_int) (pa_cons pe_int pa_nil)))))) pss_nil)
        (pss_one (ps_ret (pe_lst (pa_cons pe_int (pa_cons (pe_op op_mod (pv 0) pe_int) (pa_cons pe_int pa_nil))))))), ?_⟩
    refine ⟨_, rfl, _, _, rfl, rfl, ⟨by decide, by decide, by decide⟩, _, _, rfl, rfl, _, rfl, ?_⟩
    refine ite2 (fun y => ?_) (fun _ => ?_)
    · have y1 := of_decide_eq_true y
      have y0 : 0 ≤ i := Int.le_trans (by decide) y1
      exact ⟨_, rfl, _, rfl, _, _, rfl, rfl, (by show (0 : Int) < 2147483629; decide), (by show 3 ≤ sizeLine; decide), fun p hp => k p _ hp ⟨i, _, 0, rfl, y0, m0, by omega⟩⟩
    · exact ⟨_, rfl, _, _, rfl, rfl, (by show (0 : Int) < 2147483629; decide), (by show 3 ≤ sizeLine; decide), fun p hp => k p _ hp ⟨0, _, 0, rfl, Int.le_refl _, m0, by omega⟩⟩
def spTake : Sp := fun vs H Q _ => ∃ (a : Addr) (o : HO) (m : Int), vs = [.ref a, .int m] ∧ H a = some o ∧ BoxO o ∧ 0 < m ∧ m < 1073741824 ∧
  ∀ r o', 0 ≤ r → r < m → BoxO o' → Q (.int r) (upd H a o')
theorem ok__law_take (D : Defs K mg) (T : Tx K mg) : FnOk P w K mg base CX0 1 D._law_take.f D._law_take.fd ["_law_box_here", "_law_many"] spTake := by
  refine D._law_take.F.ok scLtake (fun vs H Q E h => ?_) (fun cdv A outer s H vs Q E hr h => ?_)
  · obtain ⟨a, o, m, rfl, _⟩ := h
    rfl
  · obtain ⟨a, o, m, rfl, hb, ⟨x, b, n, rfl, x0, b0, b1⟩, m0, m1, k⟩ := h
    have hS : SqL K H a [.int x, .int b, .int n] := SqL.of hb
    refine ⟨_, (pss_cons (ps_if (pt_cmpR op_gt (pe_ix ix_list (pv 0) pe_int (fun _ _ => rfl)) pe_int (nomark _)) (pss_cons (ps_set (i := 2) scLtake.nd rfl (Or.inl rfl) (pe_op op_mod (pe_ix ix_list (pv 0) pe_int (fun _ _ => rfl)) (pv 1)))
        (pss_cons (ps_asg (pe_op op_fdiv (pe_ix ix_list (pv 0) pe_int (fun _ _ => rfl)) (pv 1)) (pg_sub (pv 0) pe_int set_list))
        (pss_one (ps_ret (pv 2))))) pss_nil)
        (pss_cons (ps_asg (pe_op op_add (pe_ix ix_list (pv 0) pe_int (fun _ _ => rfl)) pe_int) (pg_sub (pv 0) pe_int set_list))
        (pss_cons (ps_set (i := 2) scLtake.nd rfl (Or.inl rfl) (pe_op op_mod (pe_op op_add (pe_op op_add (pe_op op_mul (pe_ix ix_list (pv 0) pe_int (fun _ _ => rfl)) pe_int) (pe_op op_mul pe_int (pe_ix ix_list (pv 0) pe_int (fun _ _ => rfl)))) pe_int) pe_int))
        (pss_cons (ps_set (i := 2) scLtake.nd rfl (Or.inl rfl) (pe_op op_mod (pe_op op_add (pe_op op_add (pe_op op_mul (pv 2) (pv 2)) (pe_op op_mul pe_int (pe_ix ix_list (pv 0) pe_int (fun _ _ => rfl)))) pe_int) pe_int))
        (pss_one (ps_ret (pe_op op_mod (pe_op op_mod (pe_op op_mul (pv 2) (pv 2)) pe_int) (pv 1)))))))), ?_⟩
    refine ⟨_, rfl, a, _, _, _, rfl, rfl, hS, at0 _ _ _, _, _, rfl, rfl, _, rfl, ?_⟩
    refine ite2 (fun _ => ?_) (fun _ => ?_)
    · refine ⟨_, rfl, a, _, _, _, rfl, rfl, hS, at0 _ _ _, _, rfl, _, _, rfl, rfl, m0, ?_⟩
      refine ⟨_, rfl, a, _, _, _, rfl, rfl, hS, at0 _ _ _, _, rfl, _, _, rfl, rfl, ⟨m0, m1⟩, ?_⟩
      refine ⟨_, rfl, a, _, _, 0, rfl, rfl, hb, rfl, ?_⟩
      exact ⟨_, rfl, k _ _ (Int.emod_nonneg _ (by omega)) (Int.emod_lt_of_pos _ m0) ⟨_, _, _, rfl, Int.ediv_nonneg x0 (by omega), b0, b1⟩⟩
    · refine ⟨_, rfl, a, _, _, _, rfl, rfl, hS, at2 _ _ _, _, _, rfl, rfl, ?_⟩
      refine ⟨_, rfl, a, _, _, 2, rfl, rfl, hb, rfl, ?_⟩
      have hb2 : (upd H a (.lst [.int x, .int b, .int (n + 1)])) a = some (.lst [.int x, .int b, .int (n + 1)]) := upd_same
      have hS2 : SqL K (upd H a (.lst [.int x, .int b, .int (n + 1)])) a [.int x, .int b, .int (n + 1)] := SqL.of hb2
      refine ⟨_, rfl, a, _, _, _, rfl, rfl, hS2, at1 _ _ _, _, _, rfl, rfl, .inr ⟨by decide, by decide⟩, ?_⟩
      refine ⟨_, rfl, a, _, _, _, rfl, rfl, hS2, at2 _ _ _, _, _, rfl, rfl, .inl ⟨by decide, by decide⟩, _, _, rfl, rfl, _, _, rfl, rfl, _, _, rfl, rfl, (by show (0 : Int) < 2147483647; decide), ?_⟩
      generalize hN : (b * 48271 + 7919 * (n + 1) + 101) % 2147483647 = N
      have N0 : 0 ≤ N := by rw [← hN]; exact Int.emod_nonneg _ (by decide)
      have N1 : N < 2147483647 := by rw [← hN]; exact Int.emod_lt_of_pos _ (by decide)
      refine ⟨_, rfl, _, rfl, _, _, rfl, rfl, .inl ⟨by omega, by omega⟩, _, rfl, a, _, _, _, rfl, rfl, hS2, at2 _ _ _, _, _, rfl, rfl, .inl ⟨by decide, by decide⟩, _, _, rfl, rfl, _, _, rfl, rfl, _, _, rfl, rfl, (by show (0 : Int) < 2147483629; decide), ?_⟩
      generalize hM : (N * N + 104729 * (n + 1) + 7) % 2147483629 = M
      have M0 : 0 ≤ M := by rw [← hM]; exact Int.emod_nonneg _ (by decide)
      have M1 : M < 2147483629 := by rw [← hM]; exact Int.emod_lt_of_pos _ (by decide)
      refine ⟨_, rfl, _, rfl, _, _, rfl, rfl, .inl ⟨by omega, by omega⟩, _, _, rfl, rfl, (by show (0 : Int) < 2147483587; decide), _, rfl, _, _, rfl, rfl, m0, ?_⟩
      exact k _ _ (Int.emod_nonneg _ (by omega)) (Int.emod_lt_of_pos _ m0) ⟨_, _, _, rfl, x0, b0, b1⟩

theorem four_at {x0 x1 x2 x3 : V} {r : Int} (h0 : 0 ≤ r) (h1 : r < 4) : ∃ v, atI [x0, x1, x2, x3] r = some v ∧ (v = x0 ∨ v = x1 ∨ v = x2 ∨ v = x3) := by
  have : r = 0 ∨ r = 1 ∨ r = 2 ∨ r = 3 := by omega
  rcases this with rfl | rfl | rfl | rfl
  · exact ⟨x0, atI_nat (j := 0) rfl, .inl rfl⟩
  · exact ⟨x1, atI_nat (j := 1) rfl, .inr (.inl rfl)⟩
  · exact ⟨x2, atI_nat (j := 2) rfl, .inr (.inr (.inl rfl))⟩
  · exact ⟨x3, atI_nat (j := 3) rfl, .inr (.inr (.inr rfl))⟩
theorem three_at {x0 x1 x2 : V} {r : Int} (h0 : 0 ≤ r) (h1 : r < 3) : ∃ v, atI [x0, x1, x2] r = some v ∧ (v = x0 ∨ v = x1 ∨ v = x2) := by
  have : r = 0 ∨ r = 1 ∨ r = 2 := by omega
  rcases this with rfl | rfl | rfl
  · exact ⟨x0, atI_nat (j := 0) rfl, .inl rfl⟩
  · exact ⟨x1, atI_nat (j := 1) rfl, .inr (.inl rfl)⟩
  · exact ⟨x2, atI_nat (j := 2) rfl, .inr (.inr rfl)⟩
def spStretches : Sp := fun vs H Q _ => ∃ (a : Addr) (o : HO) (m : Int), vs = [.ref a, .int m] ∧ H a = some o ∧ BoxO o ∧ 0 < m ∧ m ≤ 400 ∧
  ∀ (r : List Pr) (p : Addr) (H' : Hp), Valid r → r.length ≤ 30 → Kept a H H' → H p = none → RowAt H' p r → Q (.ref p) H'
theorem ok__law_stretches (D : Defs K mg) (T : Tx K mg) : FnOk P w K mg base CX0 2 D._law_stretches.f D._law_stretches.fd ["_law_box_here", "_law_most"] spStretches := by
  have G_law_take := ok__law_take (P := P) (w := w) (base := base) D T
  refine D._law_stretches.F.ok scLstretches (fun vs H Q E h => ?_) (fun cdv A outer s H vs Q E hr h => ?_)
  · obtain ⟨a, o, m, rfl, _⟩ := h
    rfl
  · obtain ⟨a, o, m, rfl, ha, hB, m0, m4, k⟩ := h
    refine ⟨_, (pss_cons (ps_set (i := 2) scLstretches.nd rfl (Or.inl rfl) (pe_lst pa_nil))
        (pss_cons (ps_for PassesOwn.never rfl (pi_range1 rfl T.b_range (pa_cons (pcall D._law_take G_law_take hr (by decide) (by rfl) (pa_cons (pv 0) (pa_cons (pe_ix ix_list (pe_lst (pa_cons pe_int (pa_cons pe_int (pa_cons pe_int pa_nil)))) (pcall D._law_take G_law_take hr (by decide) (by rfl) (pa_cons (pv 0) (pa_cons pe_int pa_nil))) (fun _ _ => rfl)) pa_nil))) pa_nil)) (pg_name (i := 3) scLstretches.nd rfl (Or.inl rfl)) (pss_cons (ps_set (i := 4) scLstretches.nd rfl (Or.inl rfl) (pe_ix ix_list (pe_lst (pa_cons pe_int (pa_cons (pcall D._law_take G_law_take hr (by decide) (by rfl) (pa_cons (pv 0) (pa_cons (pv 1) pa_nil))) (pa_cons (pcall D._law_take G_law_take hr (by decide) (by rfl) (pa_cons (pv 0) (pa_cons (pv 1) pa_nil))) (pa_cons pe_int pa_nil))))) (pcall D._law_take G_law_take hr (by decide) (by rfl) (pa_cons (pv 0) (pa_cons pe_int pa_nil))) (fun _ _ => rfl)))
        (pss_cons (ps_set (i := 5) scLstretches.nd rfl (Or.inl rfl) (pe_ix ix_list (pe_lst (pa_cons pe_int (pa_cons pe_int (pa_cons pe_int (pa_cons pe_int pa_nil))))) (pcall D._law_take G_law_take hr (by decide) (by rfl) (pa_cons (pv 0) (pa_cons pe_int pa_nil))) (fun _ _ => rfl)))
        (pss_one (ps_expr (pe_bm PySem.F.plainAttrs_list PySem.F.slot_list_append PySem.F.type_list_append mt_append (pv 2) (pa_cons (pe_tup (pa_cons (pv 4) (pa_cons (pe_callB (call_min2 rfl) (by rfl) T.b_min (by decide +kernel) (pa_cons pe_int (pa_cons (pe_op op_add (pe_op op_add (pv 4) pe_int) (pcall D._law_take G_law_take hr (by decide) (by rfl) (pa_cons (pv 0) (pa_cons (pv 5) pa_nil)))) pa_nil))) pa_nil))) pa_nil)))))))
        (pss_one (ps_ret (pv 2))))), ?_⟩
    refine ⟨(by show 0 ≤ sizeLine; decide), fun f hf => ?_⟩
    have nf := ne_of_none ha hf
    refine ⟨_, rfl, (by show 3 ≤ sizeLine; decide), fun q hq => ?_⟩
    have ha1 : (upd (upd H f (.lst [])) q (.lst [.int 4, .int 9, .int 30])) a = some o := by
      have : (upd H f (.lst [])) a = some o := by rw [upd_ne nf]; exact ha
      rw [upd_ne (ne_of_none this hq)]
      exact this
    have x1 : Exd H (upd (upd H f (.lst [])) q (.lst [.int 4, .int 9, .int 30])) := ((Exd.refl H).new hf).new hq
    have f1 : (upd (upd H f (.lst [])) q (.lst [.int 4, .int 9, .int 30])) f = some (.lst []) := by
      rw [upd_ne (ne_of_none (upd_same) hq)]
      exact upd_same
    have q1 : (upd (upd H f (.lst [])) q (.lst [.int 4, .int 9, .int 30])) q = some (.lst [.int 4, .int 9, .int 30]) := upd_same
    generalize upd (upd H f (.lst [])) q (.lst [.int 4, .int 9, .int 30]) = H1 at ha1 x1 f1 q1 ⊢
    refine ⟨_, rfl, a, o, 3, rfl, ha1, hB, by decide, by decide, fun r o1 r0 r3 B1 => ?_⟩
    obtain ⟨v, hv, hv2⟩ := three_at (x0 := .int 4) (x1 := .int 9) (x2 := .int 30) r0 r3
    obtain ⟨n, rfl, n0, n30⟩ : ∃ n : Int, v = .int n ∧ 0 < n ∧ n ≤ 30 := by
      rcases hv2 with rfl | rfl | rfl
      · exact ⟨4, rfl, by decide, by decide⟩
      · exact ⟨9, rfl, by decide, by decide⟩
      · exact ⟨30, rfl, by decide, by decide⟩
    have qa : q ≠ a := fun z => by
      rw [z] at hq
      rw [upd_ne nf, ha] at hq
      cases hq
    refine ⟨q, _, _, _, rfl, rfl, SqL.of (by rw [upd_ne qa]; exact q1), hv, ?_⟩
    refine ⟨a, o1, n, rfl, upd_same, B1, n0, by omega, fun t o2 t0 tn B2 => ?_⟩
    rw [upd_upd]
    refine ⟨t, rfl, by omega, by omega, for_range (lo := 0) (n := t.toNat) (fun i σ H' => ∃ (r : List Pr) (v3 v4 v5 : Option V), σ = [some (.ref a), some (.int m), some (.ref f), v3, v4, v5] ∧ Valid r ∧ r.length ≤ i ∧ Kept a H H' ∧ RowAt H' f r)
      ⟨[], none, none, none, rfl, (fun z hz => nomatch hz), Nat.le_refl _, ?_, ⟨[], ?_, .nil⟩⟩ ?_ ?_⟩
    · exact (x1.kept ⟨o, ha, hB⟩).trans (Kept.upd B2)
    · rw [upd_ne (fun z => by rw [z, ha] at hf; cases hf)]
      exact f1
    · rintro i σ H' hi ⟨r, v3, v4, v5, rfl, va, rl, kp, row⟩
      -- four numbers, one is drawn
      obtain ⟨⟨o3, a3, B3⟩, old3⟩ := id kp
      refine ⟨_, rfl, _, rfl, a, o3, m, rfl, a3, B3, m0, by omega, fun y1 o4 y10 y11 B4 => ?_⟩
      refine ⟨_, rfl, _, rfl, a, o4, m, rfl, upd_same, B4, m0, by omega, fun y2 o5 y20 y21 B5 => ?_⟩
      rw [upd_upd]
      refine ⟨(by show 4 ≤ sizeLine; decide), fun q2 hq2 => ?_⟩
      have k5 := (kp.trans (Kept.upd (o := o5) B5)).new hq2 (u := .lst [.int 0, .int y1, .int y2, .int 399])
      have row5 : RowAt (upd (upd H' a o5) q2 (.lst [.int 0, .int y1, .int y2, .int 399])) f r := (Exd.refl _).new hq2 |>.row (row.kept ⟨o3, a3, B3⟩ (Kept.upd B5))
      have e5 : (upd (upd H' a o5) q2 (.lst [.int 0, .int y1, .int y2, .int 399])) q2 = some (.lst [.int 0, .int y1, .int y2, .int 399]) := upd_same
      have n5 : q2 ≠ a := fun z => by rw [z, upd_same] at hq2; cases hq2
      generalize upd (upd H' a o5) q2 (.lst [.int 0, .int y1, .int y2, .int 399]) = H5 at k5 row5 e5 ⊢
      obtain ⟨o6, a6, B6⟩ := k5.box
      refine ⟨_, rfl, a, o6, 4, rfl, a6, B6, by decide, by decide, fun y3 o7 y30 y31 B7 => ?_⟩
      obtain ⟨v, hv, hv2⟩ := four_at (x0 := .int 0) (x1 := .int y1) (x2 := .int y2) (x3 := .int 399) y30 y31
      obtain ⟨b, rfl, b4⟩ : ∃ b : Nat, v = .int (b : Int) ∧ b < 400 := by
        rcases hv2 with rfl | rfl | rfl | rfl
        · exact ⟨0, rfl, by decide⟩
        · exact ⟨y1.toNat, by rw [Int.toNat_of_nonneg y10], by omega⟩
        · exact ⟨y2.toNat, by rw [Int.toNat_of_nonneg y20], by omega⟩
        · exact ⟨399, rfl, by decide⟩
      refine ⟨q2, _, _, _, rfl, rfl, SqL.of (by rw [upd_ne n5]; exact e5), hv, ?_⟩
      have k7 := k5.trans (Kept.upd (o := o7) B7)
      have row7 : RowAt (upd H5 a o7) f r := row5.kept ⟨o6, a6, B6⟩ (Kept.upd B7)
      have a7 : (upd H5 a o7) a = some o7 := upd_same
      generalize upd H5 a o7 = H7 at k7 row7 a7 ⊢
      -- how wide
      refine ⟨(by show 4 ≤ sizeLine; decide), fun q3 hq3 => ?_⟩
      have k8 := k7.new hq3 (u := .lst [.int 1, .int 2, .int 5, .int 400])
      have row8 : RowAt (upd H7 q3 (.lst [.int 1, .int 2, .int 5, .int 400])) f r := (Exd.refl _).new hq3 |>.row row7
      have e8 : (upd H7 q3 (.lst [.int 1, .int 2, .int 5, .int 400])) q3 = some (.lst [.int 1, .int 2, .int 5, .int 400]) := upd_same
      have n8 : q3 ≠ a := fun z => by rw [z, a7] at hq3; cases hq3
      generalize upd H7 q3 (.lst [.int 1, .int 2, .int 5, .int 400]) = H8 at k8 row8 e8 ⊢
      obtain ⟨o8, a8, B8⟩ := k8.box
      refine ⟨_, rfl, a, o8, 4, rfl, a8, B8, by decide, by decide, fun y4 o9 y40 y41 B9 => ?_⟩
      obtain ⟨v', hv', hv2'⟩ := four_at (x0 := .int 1) (x1 := .int 2) (x2 := .int 5) (x3 := .int 400) y40 y41
      obtain ⟨w', rfl, w0, w4⟩ : ∃ w : Int, v' = .int w ∧ 0 < w ∧ w ≤ 400 := by
        rcases hv2' with rfl | rfl | rfl | rfl
        · exact ⟨1, rfl, by decide, by decide⟩
        · exact ⟨2, rfl, by decide, by decide⟩
        · exact ⟨5, rfl, by decide, by decide⟩
        · exact ⟨400, rfl, by decide, by decide⟩
      refine ⟨q3, _, _, _, rfl, rfl, SqL.of (by rw [upd_ne n8]; exact e8), hv', ?_⟩
      have k9 := k8.trans (Kept.upd (o := o9) B9)
      have row9 : RowAt (upd H8 a o9) f r := row8.kept ⟨o8, a8, B8⟩ (Kept.upd B9)
      have a9 : (upd H8 a o9) a = some o9 := upd_same
      generalize upd H8 a o9 = H9 at k9 row9 a9 ⊢
      -- the new stretch
      have lf : ∃ xs, H9 f = some (.lst xs) := by
        obtain ⟨qs, e, _⟩ := row9
        exact ⟨_, e⟩
      obtain ⟨xs, ef⟩ := lf
      refine ⟨_, rfl, .inl ⟨rfl, _, SqL.of ef⟩, _, rfl, _, rfl, _, _, rfl, rfl, _, rfl, _, rfl, a, o9, w', rfl, a9, B9, w0, by omega, fun y5 oA y50 y51 BA => ?_⟩
      refine ⟨_, _, rfl, rfl, _, _, rfl, ?_⟩
      obtain ⟨e, he, e1, e2⟩ : ∃ e : Nat, (if (b : Int) + 1 + y5 < 400 then (b : Int) + 1 + y5 else 400) = (e : Int) ∧ b < e ∧ e ≤ 400 := by
        by_cases l : (b : Int) + 1 + y5 < 400
        · rw [if_pos l]
          exact ⟨((b : Int) + 1 + y5).toNat, by rw [Int.toNat_of_nonneg (by omega)], by omega, by omega⟩
        · rw [if_neg l]
          exact ⟨400, rfl, b4, Nat.le_refl _⟩
      have kA := k9.trans (Kept.upd (o := oA) BA)
      have rowA : RowAt (upd H9 a oA) f r := row9.kept ⟨o9, a9, B9⟩ (Kept.upd BA)
      have aA : (upd H9 a oA) a = some oA := upd_same
      generalize upd H9 a oA = HA at kA rowA aA ⊢
      refine ⟨(by show 2 ≤ sizeLine; decide), fun q4 hq4 => ?_⟩
      have kB := kA.new hq4 (u := .tup [.int (b : Int), .int (if (b : Int) + 1 + y5 < 400 then (b : Int) + 1 + y5 else 400)])
      have rowB : RowAt (upd HA q4 (.tup [.int (b : Int), .int (if (b : Int) + 1 + y5 < 400 then (b : Int) + 1 + y5 else 400)])) f r := (Exd.refl _).new hq4 |>.row rowA
      have eB : (upd HA q4 (.tup [.int (b : Int), .int (if (b : Int) + 1 + y5 < 400 then (b : Int) + 1 + y5 else 400)])) q4 = some (.tup [.int (b : Int), .int (e : Int)]) := by rw [he]; exact upd_same
      generalize upd HA q4 (.tup [.int (b : Int), .int (if (b : Int) + 1 + y5 < 400 then (b : Int) + 1 + y5 else 400)]) = HB at kB rowB eB ⊢
      obtain ⟨qs, ef2, pr⟩ := rowB
      have lr := pr.len
      refine ⟨f, _, _, rfl, rfl, ef2, ?_, r ++ [(b, e)], _, _, _, rfl, fun z hz => ?_, ?_, ?_, qs ++ [q4], ?_, ?_⟩
      · rw [List.length_map]
        have := PySem.sizeLine_eq
        omega
      · rcases List.mem_append.mp hz with hz | hz
        · exact va z hz
        · rw [List.mem_singleton.mp hz]
          exact ⟨e1, e2⟩
      · rw [List.length_append, List.length_singleton]
        omega
      · obtain ⟨oz, az, Bz⟩ := kB.box
        refine ⟨⟨oz, by rw [upd_ne (fun z => by rw [z, hf] at ha; cases ha)]; exact az, Bz⟩, fun b' u nb eu => ?_⟩
        rw [upd_ne (ne_of_none eu hf)]
        exact kB.old b' u nb eu
      · rw [List.map_append]
        exact upd_same
      · refine (pr.put fun q xs e' => ?_).app (.cons ?_ .nil)
        · rw [upd_ne (ne_of e' ef2 (by intro z; cases z))]
          exact e'
        · rw [upd_ne (ne_of eB ef2 (by intro z; cases z))]
          exact eB
    · rintro σ H' ⟨r, v3, v4, v5, rfl, va, rl, kp, row⟩
      exact ⟨_, rfl, k r f H' va (by omega) kp hf row⟩
end
end LL
namespace LL
open PySem PySem.Spec PyProof.Rows L2
section
variable {P : Program} {w : World} {K : PySem.W.Frag} {mg : Str → Option Value} {base : Heap} {c tb : Addr}
def spMarks : Sp := fun vs H Q _ => ∃ (a : Addr) (r : List Pr), vs = [.ref a] ∧ RowAt H a r ∧ Valid r ∧
  ∀ (p : Addr) (H' : Hp), Exd H H' → H p = none → H' p = some (.lst (marks (has r))) → Q (.ref p) H'
theorem ok__law_marks (D : Defs K mg) (T : Tx K mg) : FnOk P w K mg base CX0 1 D._law_marks.f D._law_marks.fd ["_law_stretches_here"] spMarks := by
  refine D._law_marks.F.ok scLmarks (fun vs H Q E h => ?_) (fun cdv A outer s H vs Q E hr h => ?_)
  · obtain ⟨a, r, rfl, _⟩ := h
    rfl
  · obtain ⟨a, r, rfl, row, va, k⟩ := h
    obtain ⟨qs, ha, pr⟩ := id row
    refine ⟨_, (pss_cons (ps_set (i := 1) scLmarks.nd rfl (Or.inl rfl) (pe_op op_rep (pe_lst (pa_cons pe_bl pa_nil)) pe_int))
        (pss_cons (ps_for PassesOwn.never rfl (pi_list (pv 0)) (pg_tup rfl (pgs_cons (pg_name (i := 2) scLmarks.nd rfl (Or.inl rfl)) (pgs_cons (pg_name (i := 3) scLmarks.nd rfl (Or.inl rfl)) pgs_nil))) (pss_one (ps_for PassesOwn.never rfl (pi_range2 rfl T.b_range (pa_cons (pv 2) (pa_cons (pv 3) pa_nil))) (pg_name (i := 4) scLmarks.nd rfl (Or.inl rfl)) (pss_one (ps_asg pe_bl (pg_sub (pv 1) (pv 4) set_list))))))
        (pss_one (ps_ret (pv 1))))), ?_⟩
    refine ⟨(by show 1 ≤ sizeLine; decide), fun l hl => ?_⟩
    refine ⟨l, _, _, rfl, rfl, upd_same, by decide, by decide, (by show 1 * (400 : Int).toNat ≤ sizeLine; decide), fun p hp => ?_⟩
    have x1 : Exd H (upd (upd H l (.lst [.bl false])) p (.lst (marks fun _ => false))) := ((Exd.refl H).new hl).new hp
    have p0 : H p = none := ((Exd.refl H).new hl (u := .lst [.bl false])).free hp
    rw [marks_none]
    have e1 : (upd (upd H l (.lst [.bl false])) p (.lst (marks fun _ => false))) p = some (.lst (marks fun _ => false)) := upd_same
    generalize upd (upd H l (.lst [.bl false])) p (.lst (marks fun _ => false)) = H1 at x1 e1 ⊢
    refine ⟨_, rfl, a, rfl, ⟨_, SqL.of (x1 _ _ ha)⟩, for_list (K := K) (a := a) (xs := qs.map V.ref) (fun i σ H' => ∃ v2 v3 v4, σ = [some (.ref a), some (.ref p), v2, v3, v4] ∧ Exd H H' ∧ H' p = some (.lst (marks (has (r.take i)))))
      ⟨_, _, _, rfl, x1, e1⟩ (fun i σ H' _ ⟨_, _, _, _, x, _⟩ => SqL.of (x _ _ ha)) ?_ ?_⟩
    · rintro i x σ H' hx ⟨v2, v3, v4, rfl, x2, e2⟩
      rw [List.getElem?_map] at hx
      cases hq : qs[i]? with
      | none => rw [hq] at hx; cases hx
      | some q =>
        rw [hq] at hx
        obtain rfl : V.ref q = x := Option.some.inj hx
        obtain ⟨⟨b, e⟩, hz, hqt⟩ := pr.get hq
        obtain ⟨z1, z2⟩ := va _ (List.mem_of_getElem? hz)
        have z1 : b < e := z1
        have z2 : e ≤ 400 := z2
        refine ⟨q, _, rfl, SqT.of (x2 _ _ hqt), rfl, _, _, rfl, _, _, rfl, rfl, ?_⟩
        refine ⟨_, rfl, _, rfl, _, _, rfl, ⟨by omega, by omega, by omega, by omega⟩, for_range (lo := (b : Int)) (n := ((e : Int) - (b : Int)).toNat) (fun j σ H' => ∃ v4, σ = [some (.ref a), some (.ref p), some (.int (b : Int)), some (.int (e : Int)), v4] ∧
            Exd H H' ∧ H' p = some (.lst (marks fun n => has (r.take i) n || (decide (b ≤ n) && decide (n < b + j)))))
          ⟨_, rfl, x2, ?_⟩ ?_ ?_⟩
        · rw [e2]
          congr 2
          apply marks_ext
          intro n _
          by_cases l1 : b ≤ n
          · rw [decide_eq_false (show ¬ n < b + 0 by omega), Bool.and_false, Bool.or_false]
          · rw [decide_eq_false l1, Bool.false_and, Bool.or_false]
        · rintro j σ H2 hj ⟨v4, rfl, x3, e3⟩
          have lt : b + j < 400 := by omega
          refine ⟨_, rfl, _, rfl, p, _, _, b + j, rfl, rfl, e3, ?_, _, rfl, x3.put p0, ?_⟩
          · rw [marks_len]
            unfold ixN
            rw [if_pos (by omega), if_pos (by omega)]
            congr 1
          · rw [upd_same, marks_set]
            congr 2
            apply marks_ext
            intro n _
            cases has (r.take i) n with
            | true => rfl
            | false =>
              rw [Bool.false_or, Bool.false_or, ← Bool.decide_and, ← Bool.decide_and, ← Bool.decide_or, decide_eq_decide]
              omega
        · rintro σ H2 ⟨v4, rfl, x3, e3⟩
          refine ⟨_, _, _, rfl, x3, ?_⟩
          rw [e3]
          congr 2
          apply marks_ext
          intro n _
          rw [List.take_add_one, hz]
          show _ = has (r.take i ++ [(b, e)]) n
          rw [has_app, has_one]
          congr 2
          rw [decide_eq_decide]
          omega
    · rintro σ H' ⟨v2, v3, v4, rfl, x2, e2⟩
      rw [List.length_map, pr.len, List.take_length] at e2
      exact ⟨_, rfl, k p H' x2 p0 e2⟩
/-- the tidy row of what is marked -/
def spRising : Sp := fun vs H Q _ => ∃ (a : Addr) (S : Nat → Bool), vs = [.ref a] ∧ H a = some (.lst (marks S)) ∧
  ∀ (r : List Pr) (p : Addr) (H' : Hp), Tidy r → (∀ n, n < 400 → has r n = S n) → Exd H H' → H p = none → RowAt H' p r → Q (.ref p) H'
theorem ok__law_rising (D : Defs K mg) (T : Tx K mg) : FnOk P w K mg base CX0 1 D._law_rising.f D._law_rising.fd ["_law_marks_here"] spRising := by
  refine D._law_rising.F.ok scLrising (fun vs H Q E h => ?_) (fun cdv A outer s H vs Q E hr h => ?_)
  · obtain ⟨a, S, rfl, _⟩ := h
    rfl
  · obtain ⟨a, S, rfl, ha, k⟩ := h
    refine ⟨_, (pss_cons (ps_set (i := 1) scLrising.nd rfl (Or.inl rfl) (pe_lst pa_nil))
        (pss_cons (ps_for PassesOwn.never rfl (pi_range1 rfl T.b_range (pa_cons pe_int pa_nil)) (pg_name (i := 2) scLrising.nd rfl (Or.inl rfl)) (pss_one (ps_if (PW.pt (pw_and (pt_val (pe_ix ix_list (pv 0) (pv 2) (fun _ _ => rfl))) (pw_and1 (PW.pt (pw_or (pt_cmpR (op_eqD hr.units) (pv 1) (pe_lst pa_nil) (nomark _)) (pw_or1 (pt_cmpR op_ne (pe_ix ix_tup (pe_ix ix_list (pv 1) (pe_un un_neg pe_int) (fun _ _ => rfl)) pe_int (fun _ _ => rfl)) (pv 2) (nomark _)))))))) (pss_one (ps_expr (pe_bm PySem.F.plainAttrs_list PySem.F.slot_list_append PySem.F.type_list_append mt_append (pv 1) (pa_cons (pe_tup (pa_cons (pv 2) (pa_cons (pe_op op_add (pv 2) pe_int) pa_nil))) pa_nil)))) (pss_one (ps_if (pt_val (pe_ix ix_list (pv 0) (pv 2) (fun _ _ => rfl))) (pss_one (ps_asg (pe_tup (pa_cons (pe_ix ix_tup (pe_ix ix_list (pv 1) (pe_un un_neg pe_int) (fun _ _ => rfl)) pe_int (fun _ _ => rfl)) (pa_cons (pe_op op_add (pv 2) pe_int) pa_nil))) (pg_sub (pv 1) (pe_un un_neg pe_int) set_list))) pss_nil)))))
        (pss_one (ps_ret (pv 1))))), ?_⟩
    refine ⟨(by show 0 ≤ sizeLine; decide), fun p hp => ?_⟩
    have up : ∀ (i : Nat) (r : List Pr), (∀ n, has r n = (S n && decide (n < i))) → Valid r → ∀ z ∈ r, z.2 ≤ i := fun i r h v => has_below v fun n q => by
      rw [h] at q
      exact of_decide_eq_true (Bool.and_eq_true_iff.mp q).2
    refine ⟨400, rfl, by decide, by decide, for_range (lo := 0) (n := (400 : Int).toNat) (fun i σ H' => ∃ v2, σ = [some (.ref a), some (.ref p), v2] ∧ Exd H H' ∧ ∃ r, Tidy r ∧ (∀ n, has r n = (S n && decide (n < i))) ∧ RowAt H' p r)
      ⟨_, rfl, (Exd.refl H).new hp, [], trivial, (fun n => by rw [has_nil, decide_eq_false (Nat.not_lt_zero n), Bool.and_false]), [], upd_same, .nil⟩ ?_ ?_⟩
    · rintro i σ H' hi ⟨v2, rfl, x1, r, ti, hh, row⟩
      have hi : i < 400 := hi
      have va := TidyFrom.valid (b := 0) ti
      have le := up i r hh va
      have mk : atI (marks S) ((0 : Int) + (i : Int)) = some (.bl (S i)) := by rw [Int.zero_add]; exact marks_at S hi
      refine ⟨_, rfl, _, rfl, a, _, _, _, rfl, rfl, SqL.of (x1 _ _ ha), mk, S i, rfl, ?_⟩
      cases hS : S i with
      | false =>
        refine iteF ⟨_, rfl, _, rfl, a, _, _, _, rfl, rfl, SqL.of (x1 _ _ ha), mk, S i, rfl, ?_⟩
        rw [hS]
        refine iteF ⟨_, rfl, x1, r, ti, fun n => ?_, row⟩
        rw [hh]
        by_cases e : n = i
        · rw [e, hS]
          rfl
        · congr 1
          rw [decide_eq_decide]
          omega
      | true =>
        obtain ⟨qs, hp1, pr⟩ := id row
        -- one more stretch
        have fresh : ∀ (H2 : Hp) (D : Hp → Prop), Exd H H2 → H2 p = some (.lst (qs.map V.ref)) → PrsAt H2 qs r → (∀ z ∈ r, z.2 < i) →
            (∀ H3 r', Exd H H3 → Tidy r' → (∀ n, has r' n = (S n && decide (n < i + 1))) → RowAt H3 p r' → D H3) →
            ∀ t, H2 t = none → D (upd (upd H2 t (.tup [.int ((0 : Int) + (i : Int)), .int ((0 : Int) + (i : Int) + 1)])) p (.lst (qs.map V.ref ++ [.ref t]))) := by
          intro H2 D x2 e2 pr2 lt d t ht
          rw [Int.zero_add]
          have nt := ne_of_none e2 ht
          refine d _ (r ++ [(i, i + 1)]) ((x2.new ht).put hp) (ti.app lt (by omega) (by omega)) (fun n => ?_) ⟨qs ++ [t], ?_, ?_⟩
          · rw [has_app, hh, has_one]
            by_cases e : n = i
            · subst e
              rw [hS, decide_eq_true (Nat.le_refl n), decide_eq_true (Nat.lt_succ_self n)]
              simp
            · have : (decide (i ≤ n) && decide (n < i + 1)) = false := by
                rw [← Bool.decide_and, decide_eq_false]
                omega
              rw [this, Bool.or_false]
              congr 1
              rw [decide_eq_decide]
              omega
          · rw [List.map_append]
            exact upd_same
          · refine (pr2.put fun q xs e' => ?_).app (.cons ?_ .nil)
            · rw [upd_ne (ne_of e' e2 (by intro z; cases z)), upd_ne (ne_of_none e' ht)]
              exact e'
            · rw [upd_ne nt.symm]
              exact upd_same
        refine iteT ⟨_, rfl, (by show 0 ≤ sizeLine; decide), fun q hq => ?_⟩
        have x2 := x1.new hq (u := .lst [])
        have row2 : RowAt (upd H' q (.lst [])) p r := ((Exd.refl _).new hq).row row
        have dq : Dp K (upd H' q (.lst [])) (.ref q) (rowDat []) := .lst (SqL.of upd_same) .nil
        have hp2 : (upd H' q (.lst [])) p = some (.lst (qs.map V.ref)) := by rw [upd_ne (ne_of_none hp1 hq)]; exact hp1
        have pr2 : PrsAt (upd H' q (.lst [])) qs r := pr.put fun b xs e => by rw [upd_ne (ne_of_none e hq)]; exact e
        have ha2 := x2 _ _ ha
        generalize upd H' q (.lst []) = H2 at x2 row2 dq hp2 pr2 ha2 ⊢
        have small : r.length < sizeLine := by
          have := ti.len
          have := PySem.sizeLine_eq
          omega
        refine ⟨rowDat r, rowDat [], row2.dp, dq, rowDat_shaped _, rowDat_shaped _, decide (r = []), by rw [rowDat_eqv], ?_⟩
        by_cases hr0 : r = []
        · rw [decide_eq_true hr0]
          refine iteT ?_
          refine iteT ⟨_, rfl, .inl ⟨rfl, _, SqL.of hp2⟩, _, rfl, _, rfl, _, _, rfl, rfl, (by show 2 ≤ sizeLine; decide), fun t ht => ?_⟩
          refine ⟨p, _, _, rfl, rfl, (by rw [upd_ne (ne_of_none hp2 ht)]; exact hp2), by rw [List.length_map, pr.len]; exact small, ?_⟩
          refine fresh H2 _ x2 hp2 pr2 (fun z hz => by rw [hr0] at hz; cases hz) (fun H3 r' x3 t3 h3 row3 => ⟨_, rfl, x3, r', t3, h3, row3⟩) t ht
        · rw [decide_eq_false hr0]
          refine iteF ?_
          obtain ⟨r0, z, er⟩ := snoc_of hr0
          rw [er] at pr2
          obtain ⟨ps, ql, eq', pr0, eql⟩ := pr2.snoc
          have at1 : atI (qs.map V.ref) (-1) = some (.ref ql) := by
            rw [eq', List.map_append]
            exact atI_last _ _
          have zr : z ∈ r := by rw [er]; exact List.mem_append_right _ List.mem_cons_self
          refine ⟨_, rfl, _, rfl, p, _, _, _, rfl, rfl, SqL.of hp2, at1, ql, _, _, _, rfl, rfl, SqT.of eql, atT1 _ _ _, _, rfl, rfl, _, rfl, ?_⟩
          by_cases hz : z.2 = i
          · have ne : (!decide (V.int (z.2 : Int) = V.int ((0 : Int) + (i : Int)))) = false := by
              rw [decide_eq_true (by rw [hz, Int.zero_add])]
              rfl
            rw [ne]
            refine iteF ⟨_, rfl, _, rfl, a, _, _, _, rfl, rfl, SqL.of ha2, mk, S i, rfl, ?_⟩
            rw [hS]
            refine iteT ⟨_, rfl, _, rfl, p, _, _, _, rfl, rfl, SqL.of hp2, at1, ql, _, _, _, rfl, rfl, SqT.of eql, atT0 _ _, _, rfl, _, _, rfl, rfl, (by show 2 ≤ sizeLine; decide), fun t ht => ?_⟩
            have nt := ne_of_none hp2 ht
            have big : (qs.map V.ref).length = ps.length + 1 := by rw [eq', List.length_map, List.length_append]; rfl
            refine ⟨_, rfl, _, rfl, p, _, _, ps.length, rfl, rfl, (by rw [upd_ne nt]; exact hp2), ?_, _, rfl, (x2.new ht).put hp, r0 ++ [(z.1, i + 1)], ?_, fun n => ?_, ps ++ [t], ?_, ?_⟩
            · rw [big]
              unfold ixN
              rw [if_neg (by decide), if_pos (by omega)]
              congr 1
              omega
            · have ti' := ti
              rw [er, show z = (z.1, i) from Prod.ext rfl hz] at ti'
              exact TidyFrom.grow (b := 0) ti' (by omega)
            · have h1 := hh n
              rw [er, has_app, show z = (z.1, i) from Prod.ext rfl hz, has_one] at h1
              rw [has_app, has_one]
              have zl := (va z zr).1
              by_cases e : n = i
              · subst e
                rw [hS, decide_eq_true (show z.1 ≤ n by omega), decide_eq_true (Nat.lt_succ_self n), Bool.and_self, Bool.or_true]
              · rw [show decide (n < i + 1) = decide (n < i) from by rw [decide_eq_decide]; omega]
                exact h1
            · rw [eq', List.map_append, List.map_append, upd_same]
              congr 2
              rw [List.set_append_right _ _ (by rw [List.length_map]; exact Nat.le_refl _), List.length_map, Nat.sub_self]
              rfl
            · refine (pr0.put fun q xs e' => ?_).app (.cons ?_ .nil)
              · rw [upd_ne (ne_of e' hp2 (by intro z; cases z)), upd_ne (ne_of_none e' ht)]
                exact e'
              · rw [upd_ne nt.symm, upd_same, Int.zero_add]
                rfl
          · have ne : (!decide (V.int (z.2 : Int) = V.int ((0 : Int) + (i : Int)))) = true := by
              rw [decide_eq_false (fun y => hz (by injection y with y; omega))]
              rfl
            rw [ne]
            refine iteT ⟨_, rfl, .inl ⟨rfl, _, SqL.of hp2⟩, _, rfl, _, rfl, _, _, rfl, rfl, (by show 2 ≤ sizeLine; decide), fun t ht => ?_⟩
            refine ⟨p, _, _, rfl, rfl, (by rw [upd_ne (ne_of_none hp2 ht)]; exact hp2), by rw [List.length_map, pr.len]; exact small, ?_⟩
            refine fresh H2 _ x2 hp2 (by rw [er]; exact pr2) (fun y hy => ?_) (fun H3 r' x3 t3 h3 row3 => ⟨_, rfl, x3, r', t3, h3, row3⟩) t ht
            have := le y hy
            rcases Nat.lt_or_eq_of_le this with l | l
            · exact l
            · exfalso
              have ti' := ti
              rw [er] at ti'
              have b1 := TidyFrom.last (b := 0) ti' (show y ∈ r0 ++ [z] by rw [← er]; exact hy)
              have b2 := le z zr
              omega
    · rintro σ H' ⟨v2, rfl, x1, r, ti, hh, row⟩
      refine ⟨_, rfl, k r p H' ti (fun n hn => ?_) x1 hp row⟩
      rw [hh, decide_eq_true (show n < (400 : Int).toNat from hn), Bool.and_true]
end
end LL
namespace LL
open PySem PySem.Spec PyProof.Rows L2
section
variable {P : Program} {w : World} {K : PySem.W.Frag} {mg : Str → Option Value} {base : Heap} {c tb : Addr}
abbrev nums (ns : List Nat) : List V := ns.map fun n : Nat => V.int (n : Int)
theorem nums_len (ns : List Nat) : (nums ns).length = ns.length := List.length_map _
theorem nums_erase (ns : List Nat) (k : Nat) : (nums ns).eraseIdx k = nums (ns.eraseIdx k) := by
  induction ns generalizing k with
  | nil => rfl
  | cons n ns ih =>
    cases k with
    | zero => rfl
    | succ k => exact congrArg _ (ih k)
theorem mem_erase (ls : List Nat) : ∀ (k : Nat) (h : k < ls.length) (n : Nat), n ∈ ls ↔ n = ls[k] ∨ n ∈ ls.eraseIdx k := by
  induction ls with
  | nil => intro k h; exact absurd h (Nat.not_lt_zero k)
  | cons x ls ih =>
    intro k h n
    cases k with
    | zero => simp
    | succ k =>
      have h' : k < ls.length := Nat.lt_of_succ_lt_succ h
      show n ∈ x :: ls ↔ n = ls[k] ∨ n ∈ x :: ls.eraseIdx k
      rw [List.mem_cons, List.mem_cons, ih k h' n]
      constructor
      · rintro (a | a | a)
        · exact .inr (.inl a)
        · exact .inl a
        · exact .inr (.inr a)
      · rintro (a | a | a)
        · exact .inr (.inl a)
        · exact .inl a
        · exact .inr (.inr a)
theorem seqIx_nat {k n : Nat} (h : k < n) : seqIndex? (k : Int) n = some k := by
  unfold seqIndex?
  have : ¬ ((k : Int) < 0) := by omega
  simp [this, h]
/-- an object that is new since H is changed -/
theorem Kept.put {a p : Addr} {H H1 : Hp} {u : HO} (x : Kept a H H1) (hp : H p = none) (n : p ≠ a) : Kept a H (L2.upd H1 p u) := by
  obtain ⟨⟨o, e, b⟩, old⟩ := x
  exact ⟨⟨o, by rw [upd_ne n.symm]; exact e, b⟩, fun c v m q => by rw [upd_ne (ne_of_none q hp)]; exact old c v m q⟩
def lenAt (l : Addr) (H : Hp) : Nat := match H l with
  | some (.lst xs) => xs.length
  | _ => 0
theorem lenAt_eq {l : Addr} {H : Hp} {xs : List V} (e : H l = some (.lst xs)) : lenAt l H = xs.length := by
  unfold lenAt
  rw [e]
/-- the same numbers, in another order -/
def spMixed (K : PySem.W.Frag) : Sp := fun vs H Q _ => ∃ (a p : Addr) (ns : List Nat), vs = [.ref a, .ref p] ∧ (∃ o, H a = some o ∧ BoxO o) ∧ p ≠ a ∧ H p = some (.lst (nums ns)) ∧ ns.length ≤ 400 ∧
  ∀ (ms : List Nat) (q : Addr) (H' : Hp), (∀ n, n ∈ ms ↔ n ∈ ns) → ms.length = ns.length → Kept a H H' → H q = none → H' q = some (.lst (nums ms)) → Q (.ref q) H'
theorem ok__law_mixed (D : Defs K mg) (T : Tx K mg) : FnOk P w K mg base CX0 2 D._law_mixed.f D._law_mixed.fd ["_law_box_here", "_law_some"] (spMixed K) := by
  have G_law_take := ok__law_take (P := P) (w := w) (base := base) D T
  refine D._law_mixed.F.ok scLmixed (fun vs H Q E h => ?_) (fun cdv A outer s H vs Q E hr h => ?_)
  · obtain ⟨a, p, ns, rfl, _⟩ := h
    rfl
  · obtain ⟨a, p, ns, rfl, bx, npa, hp, len, k⟩ := h
    refine ⟨_, (pss_cons (ps_set (i := 2) scLmixed.nd rfl (Or.inl rfl) (pe_callTy call_list_of (by rfl) T.b_list (by decide +kernel) (pa_cons (pv 1) pa_nil)))
        (pss_cons (ps_set (i := 3) scLmixed.nd rfl (Or.inl rfl) (pe_lst pa_nil))
        (pss_cons (ps_while PassesOwn.never (pt_cmpR (op_neD hr.units) (pv 2) (pe_lst pa_nil) (nomark _)) (pss_one (ps_expr (pe_bm PySem.F.plainAttrs_list PySem.F.slot_list_append PySem.F.type_list_append mt_append (pv 3) (pa_cons (pe_bm PySem.F.plainAttrs_list PySem.F.slot_list_pop PySem.F.type_list_pop mt_popAt (pv 2) (pa_cons (pcall D._law_take G_law_take hr (by decide) (by rfl) (pa_cons (pv 0) (pa_cons (pe_callB call_len_seq (by rfl) T.b_len (by decide +kernel) (pa_cons (pv 2) pa_nil)) pa_nil))) pa_nil)) pa_nil)))))
        (pss_one (ps_ret (pv 3)))))), ?_⟩
    refine ⟨_, rfl, p, _, rfl, .inl (SqL.of hp), fun l hl => ⟨(by show 0 ≤ sizeLine; decide), fun f hf => ?_⟩⟩
    have x2 : Exd H (upd (upd H l (.lst (nums ns))) f (.lst [])) := ((Exd.refl H).new hl).new hf
    have el : (upd (upd H l (.lst (nums ns))) f (.lst [])) l = some (.lst (nums ns)) := ((Exd.refl _).new hf) _ _ upd_same
    have ef : (upd (upd H l (.lst (nums ns))) f (.lst [])) f = some (.lst (nums [])) := upd_same
    have hf0 : H f = none := ((Exd.refl H).new hl).free hf
    have lf : l ≠ f := ne_of_none upd_same hf
    obtain ⟨o0, ea0, _⟩ := id bx
    have la : l ≠ a := fun z => by rw [z, ea0] at hl; cases hl
    have fa : f ≠ a := fun z => by rw [z, ea0] at hf0; cases hf0
    generalize upd (upd H l (.lst (nums ns))) f (.lst []) = H2 at x2 el ef ⊢
    refine while_by (fun σ H' => σ = [some (.ref a), some (.ref p), some (.ref l), some (.ref f)] ∧ Kept a H H' ∧ ∃ ls fs : List Nat, H' l = some (.lst (nums ls)) ∧ H' f = some (.lst (nums fs)) ∧ (∀ n, n ∈ ns ↔ n ∈ ls ∨ n ∈ fs) ∧ ls.length + fs.length = ns.length)
      (fun σ H' => lenAt l H') ⟨rfl, x2.kept bx, ns, [], el, ef, (fun n => by simp), by simp⟩ ?_ ?_
    · rintro σ H' ⟨rfl, kp, ls, fs, el', ef', mem, ln⟩
      refine ⟨_, rfl, (by show 0 ≤ sizeLine; decide), fun e he => ?_⟩
      have y1 : Exd H' (upd H' e (.lst [])) := (Exd.refl _).new he
      have kp1 := kp.new he (u := .lst [])
      have el1 := y1 _ _ el'
      have ef1 := y1 _ _ ef'
      refine ⟨natDat ls, natDat [], nat_dp el1, nat_dp (ns := []) upd_same, natDat_shaped _, natDat_shaped _, _, rfl, ?_⟩
      have ll : lenAt l H' = ls.length := by rw [lenAt_eq el', nums_len]
      generalize upd H' e (.lst []) = H3 at y1 kp1 el1 ef1 ⊢
      rw [natDat_eqv]
      cases hls : decide (ls = []) with
      | true =>
        have : ls = [] := of_decide_eq_true hls
        subst this
        refine iteF ⟨_, rfl, k fs f H3 (fun n => by rw [mem n]; simp) (by simpa using ln) kp1 hf0 ef1⟩
      | false =>
        have ne : ls ≠ [] := of_decide_eq_false hls
        have pos : 0 < ls.length := List.length_pos_iff.mpr ne
        refine iteT ?_
        obtain ⟨o, ea, B⟩ := kp1.box
        refine ⟨_, rfl, .inl ⟨rfl, _, SqL.of ef1⟩, _, rfl, .inl ⟨rfl, _, SqL.of el1⟩, _, rfl, _, rfl, l, _, rfl, .inl (SqL.of el1), a, o, _, rfl, ea, B, ?_, ?_, fun r o1 r0 r1 B1 => ?_⟩
        · rw [nums_len]; omega
        · rw [nums_len]; omega
        rw [nums_len] at r1
        have kp2 := kp1.trans (Kept.upd (o := o1) B1)
        have el2 : (upd H3 a o1) l = some (.lst (nums ls)) := by rw [upd_ne la]; exact el1
        have ef2 : (upd H3 a o1) f = some (.lst (nums fs)) := by rw [upd_ne fa]; exact ef1
        generalize upd H3 a o1 = H4 at kp2 el2 ef2 ⊢
        have rn : r = ((r.toNat : Nat) : Int) := (Int.toNat_of_nonneg r0).symm
        have rl : r.toNat < ls.length := by omega
        refine ⟨l, _, r, r.toNat, .int ((ls[r.toNat] : Nat) : Int), rfl, rfl, el2, by omega, by omega, ?_, ?_, ?_⟩
        · rw [nums_len, rn]
          exact seqIx_nat rl
        · rw [List.getElem?_map, List.getElem?_eq_getElem rl]
          rfl
        have ef3 : (upd H4 l (.lst ((nums ls).eraseIdx r.toNat))) f = some (.lst (nums fs)) := by rw [upd_ne lf.symm]; exact ef2
        refine ⟨f, _, _, rfl, rfl, ef3, ?_, ⟨rfl, ?_, ls.eraseIdx r.toNat, fs ++ [ls[r.toNat]], ?_, ?_, fun n => ?_, ?_⟩, ?_⟩
        · rw [nums_len]
          have := PySem.sizeLine_eq
          omega
        · exact (kp2.put hl la).put hf0 fa
        · rw [upd_ne lf, upd_same, nums_erase]
        · rw [upd_same]
          exact congrArg (fun z => some (HO.lst z)) (List.map_append (f := fun n : Nat => V.int (n : Int)) (l₁ := fs) (l₂ := [ls[r.toNat]])).symm
        · rw [mem n, List.mem_append, List.mem_singleton, mem_erase ls r.toNat rl n]
          constructor
          · rintro ((h | h) | h)
            · exact .inr (.inr h)
            · exact .inl h
            · exact .inr (.inl h)
          · rintro (h | h | h)
            · exact .inl (.inr h)
            · exact .inr h
            · exact .inl (.inl h)
        · rw [List.length_append, List.length_singleton, List.length_eraseIdx_of_lt rl]
          omega
        · show lenAt l _ < lenAt l _
          rw [ll, lenAt_eq (xs := nums (ls.eraseIdx r.toNat)) (by rw [upd_ne lf, upd_same, nums_erase]), nums_len, List.length_eraseIdx_of_lt rl]
          omega
    · exact fun σ H Q Q' m ⟨v, hv, h0, h⟩ => ⟨v, hv, h0, fun p hp => let ⟨d, e, a, b, c, g, bb, eb, q⟩ := h p hp; ⟨d, e, a, b, c, g, bb, eb, m _ _ q⟩⟩
end
end LL
namespace LL
open PySem PySem.Spec PyProof.Rows L2
section
variable {P : Program} {w : World} {K : PySem.W.Frag} {mg : Str → Option Value} {base : Heap} {c tb : Addr}
theorem eight_at {x0 x1 x2 x3 x4 x5 x6 x7 : V} {r : Int} (h0 : 0 ≤ r) (h1 : r < 8) : ∃ v, atI [x0, x1, x2, x3, x4, x5, x6, x7] r = some v ∧ (v = x0 ∨ v = x1 ∨ v = x2 ∨ v = x3 ∨ v = x4 ∨ v = x5 ∨ v = x6 ∨ v = x7) := by
  obtain ⟨k, rfl⟩ : ∃ k : Nat, r = (k : Int) := ⟨r.toNat, (Int.toNat_of_nonneg h0).symm⟩
  match k, h1 with
  | 0, _ => exact ⟨_, atI_nat (j := 0) rfl, by simp⟩
  | 1, _ => exact ⟨_, atI_nat (j := 1) rfl, by simp⟩
  | 2, _ => exact ⟨_, atI_nat (j := 2) rfl, by simp⟩
  | 3, _ => exact ⟨_, atI_nat (j := 3) rfl, by simp⟩
  | 4, _ => exact ⟨_, atI_nat (j := 4) rfl, by simp⟩
  | 5, _ => exact ⟨_, atI_nat (j := 5) rfl, by simp⟩
  | 6, _ => exact ⟨_, atI_nat (j := 6) rfl, by simp⟩
  | 7, _ => exact ⟨_, atI_nat (j := 7) rfl, by simp⟩
  | k + 8, h => exact absurd h (by omega)
theorem ifEq {x y : V} {A B : Prop} (e : x = y) (h : B) : if (!decide (x = y)) = true then A else B := by
  rw [decide_eq_true e]
  exact h
/-- one of the things that are asked of -/
inductive Ask : V → Prop
  | int (i : Int) : Ask (.int i)
  | bl (b : Bool) : Ask (.bl b)
  | non : Ask .non
  | str (z : Str) : Ask (.str z)
theorem Ask.thing {K : PySem.W.Frag} {H : Hp} {x : V} (h : Ask x) : Thing K H x := by
  cases h with
  | int i => exact .int i
  | bl b => exact .bl b
  | non => exact .non
  | str z => exact .str z
def spRight (K : PySem.W.Frag) (tb : Addr) : Sp := fun vs H Q _ => ∃ (a p d q : Addr) (r : List Pr), vs = [.ref a, .ref p, .ref d, .ref q] ∧ (∃ o, H a = some o ∧ BoxO o) ∧ RowAt H p r ∧ RowAt H d r ∧ Tidy r ∧ q ≠ a ∧ H q = some (.lst (nums (numsOf r))) ∧ GxR.TabG H tb ∧ ∀ H', Kb a tb H H' → Q (.bl true) H'
theorem ok__law_right (D : Defs K mg) (T : Tx K mg) (hc : D.is_runs.fd.code = .ref c) (TB : GxR.TabB base mg c tb) : FnG P w K mg base 11 D._law_right.f D._law_right.fd ["_law_box_here", "_law_found", "_law_due", "_law_numbers"] (spRight K tb) := by
  have Ghas_number := ok_has_number (P := P) (w := w) (base := base) D T hc TB
  have Gis_runs := ok_is_runs (P := P) (w := w) (base := base) D T hc TB
  have Ghow_many := ok_how_many (P := P) (w := w) (base := base) D T hc TB
  have Gnumbers_in := ok_numbers_in (P := P) (w := w) (base := base) D T hc TB
  have G_law_take := ok__law_take (P := P) (w := w) (base := base) D T
  refine fnG_of D._law_right.F scLright (fun vs H Q E h => ?_) (fun cdv A outer s H vs Q E guard hr h => ?_)
  · obtain ⟨a, p, d, q, r, rfl, _⟩ := h
    rfl
  · obtain ⟨a, p, d, q, r, rfl, bx, rp, rd, ti, nqa, eq_, tab, k⟩ := h
    have va := TidyFrom.valid (b := 0) ti
    refine ⟨_, (pss_cons (ps_if (PW.pt (pw_or (pt_not (pt_val (pe_callB call_is_list (by rfl) T.b_isinstance (by decide +kernel) (pa_cons (pv 1) (pa_cons (pe_bltn (v := .ty "list") (u := .type "list") (by rfl) T.b_list (by decide +kernel) rfl) pa_nil))))) (pw_or (pt_cmpR op_ne (pe_callB (call_reprM guard hr) (by rfl) T.b_repr (by decide +kernel) (pa_cons (pv 1) pa_nil)) (pe_callB (call_reprM guard hr) (by rfl) T.b_repr (by decide +kernel) (pa_cons (pv 2) pa_nil)) (nomark _)) (pw_or1 (pt_cmpR op_notBl (pcall D.is_runs Gis_runs hr (by decide) (by rfl) (pa_cons (pv 1) pa_nil)) pe_bl (nomark _)))))) (pss_one (ps_ret pe_bl)) pss_nil)
        (pss_cons (ps_if (PW.pt (pw_or (pt_cmpR op_ne (pcall D.how_many Ghow_many hr (by decide) (by rfl) (pa_cons (pv 1) pa_nil)) (pe_callB call_len_seq (by rfl) T.b_len (by decide +kernel) (pa_cons (pv 3) pa_nil)) (nomark _)) (pw_or (pt_val (pe_callB call_is_bool (by rfl) T.b_isinstance (by decide +kernel) (pa_cons (pcall D.how_many Ghow_many hr (by decide) (by rfl) (pa_cons (pv 1) pa_nil)) (pa_cons (pe_bltn (v := .ty "bool") (u := .type "bool") (by rfl) T.b_bool (by decide +kernel) rfl) pa_nil)))) (pw_or1 (pt_cmpR (op_neD hr.units) (pcall D.numbers_in Gnumbers_in hr (by decide) (by rfl) (pa_cons (pv 1) pa_nil)) (pv 3) (nomark _)))))) (pss_one (ps_ret pe_bl)) pss_nil)
        (pss_cons (ps_for PassesOwn.never rfl (pi_range1 rfl T.b_range (pa_cons pe_int pa_nil)) (pg_name (i := 4) scLright.nd rfl (Or.inl rfl)) (pss_cons (ps_set (i := 5) scLright.nd rfl (Or.inl rfl) (pe_ix ix_list (pe_lst (pa_cons (pcall D._law_take G_law_take hr (by decide) (by rfl) (pa_cons (pv 0) (pa_cons pe_int pa_nil))) (pa_cons (pcall D._law_take G_law_take hr (by decide) (by rfl) (pa_cons (pv 0) (pa_cons pe_int pa_nil))) (pa_cons pe_int (pa_cons pe_int (pa_cons (pe_un un_neg pe_int) (pa_cons pe_bl (pa_cons pe_non (pa_cons pe_str pa_nil))))))))) (pcall D._law_take G_law_take hr (by decide) (by rfl) (pa_cons (pv 0) (pa_cons pe_int pa_nil))) (fun _ _ => rfl)))
        (pss_cons (ps_set (i := 2) scLright.nd rfl (Or.inl rfl) (pe_and (pe_callB call_is_int (by rfl) T.b_isinstance (by decide +kernel) (pa_cons (pv 5) (pa_cons (pe_bltn (v := .ty "int") (u := .type "int") (by rfl) T.b_int (by decide +kernel) rfl) pa_nil))) (pe_and (pe_not (pe_callB call_is_bool (by rfl) T.b_isinstance (by decide +kernel) (pa_cons (pv 5) (pa_cons (pe_bltn (v := .ty "bool") (u := .type "bool") (by rfl) T.b_bool (by decide +kernel) rfl) pa_nil)))) (pe_one (pe_cmpR op_in_seq (pv 5) (pv 3) (by rfl))))))
        (pss_cons (ps_set (i := 6) scLright.nd rfl (Or.inl rfl) (pcall D.has_number Ghas_number hr (by decide) (by rfl) (pa_cons (pv 1) (pa_cons (pv 5) pa_nil))))
        (pss_one (ps_if (PW.pt (pw_or (pt_not (pt_val (pe_callB call_is_bool (by rfl) T.b_isinstance (by decide +kernel) (pa_cons (pv 6) (pa_cons (pe_bltn (v := .ty "bool") (u := .type "bool") (by rfl) T.b_bool (by decide +kernel) rfl) pa_nil))))) (pw_or1 (pt_cmpR op_ne (pv 6) (pv 2) (nomark _))))) (pss_one (ps_ret pe_bl)) pss_nil))))))
        (pss_one (ps_ret pe_bl))))), ?_⟩
    have okR : Valid r ∧ r.length ≤ 400 := ⟨va, by have := ti.len; omega⟩
    have sm : Sm (rowDat r) 60 1048576 := (sm_row okR.1 okR.2).mono (by decide) (by decide)
    have lst : IsLst K H (.ref p) true := by
      obtain ⟨qs, e, _⟩ := rp
      exact .lst (tyX_l e)
    refine ⟨_, rfl, _, _, rfl, lst, _, rfl, iteF ?_⟩
    refine ⟨_, rfl, .ref p, rowDat r, rfl, rp.dp, rfl, sm, ?_⟩
    refine ⟨_, rfl, .ref d, rowDat r, rfl, rd.dp, rfl, sm, rfl, _, rfl, ?_⟩
    rw [decide_eq_true rfl]
    refine iteF ?_
    have ru : RunsB K H (.ref p) true := by
      have := RunsB.row (K := K) rp va
      rw [decide_eq_true ti] at this
      exact this
    refine ⟨_, rfl, _, _, rfl, ru, tab, fun H1 n1 => ⟨_, _, rfl, rfl, _, rfl, iteF ?_⟩⟩
    have rp1 := rp.nw n1
    refine ⟨_, rfl, p, r, rfl, rp1, ti, n1.tab, fun H2 n2 => ?_⟩
    have n12 := n1.trans n2
    refine ⟨_, rfl, q, _, rfl, .inl (SqL.of (n12.lst eq_)), rfl, _, rfl, ?_⟩
    rw [nums_len, decide_eq_true rfl]
    refine iteF ?_
    refine ⟨_, rfl, p, r, rfl, rp.nw n12, ti, n12.tab, fun H3 n3 => ?_⟩
    have n13 := n12.trans n3
    refine ⟨_, rfl, .int _, _, rfl, iteF ?_⟩
    refine ⟨_, rfl, p, r, rfl, rp.nw n13, ti, n13.tab, fun pz H4 n4 fz ez => ?_⟩
    have n14 := n13.trans n4
    refine ⟨_, rfl, natDat _, natDat _, nat_dp ez, nat_dp (n14.lst eq_), natDat_shaped _, natDat_shaped _, _, rfl, ?_⟩
    rw [natDat_eqv, decide_eq_true rfl]
    refine iteF ?_
    have k4 := (Kb.refl bx tab).nw n14
    generalize H4 = G0 at k4
    refine ⟨3, rfl, by decide, by decide, for_range (lo := 0) (n := (3 : Int).toNat) (fun i σ H' => ∃ v2 v4 v5 v6, σ = [some (.ref a), some (.ref p), v2, some (.ref q), v4, v5, v6] ∧ Kb a tb H H') ⟨_, _, _, _, rfl, k4⟩ ?_ ?_⟩
    · rintro i σ H' hi ⟨v2, v4, v5, v6, rfl, kb⟩
      obtain ⟨o1, a1, B1⟩ := kb.box
      refine ⟨_, rfl, a, o1, 400, rfl, a1, B1, by decide, by decide, fun y1 o2 y10 y11 B2 => ?_⟩
      refine ⟨_, rfl, a, o2, 15, rfl, upd_same, B2, by decide, by decide, fun y2 o3 y20 y21 B3 => ?_⟩
      rw [upd_upd]
      refine ⟨_, rfl, (by show 8 ≤ sizeLine; decide), fun l hl => ?_⟩
      have k3 := (kb.kept (Kept.upd (o := o3) B3)).new hl (u := .lst [.int y1, .int y2, .int 399, .int 400, .int (-1), .bl true, .non, .str "3"])
      have a3 : (upd (upd H' a o3) l (.lst [.int y1, .int y2, .int 399, .int 400, .int (-1), .bl true, .non, .str "3"])) a = some o3 := by rw [upd_ne (ne_of_none upd_same hl)]; exact upd_same
      have l3 : (upd (upd H' a o3) l (.lst [.int y1, .int y2, .int 399, .int 400, .int (-1), .bl true, .non, .str "3"])) l = some (.lst [.int y1, .int y2, .int 399, .int 400, .int (-1), .bl true, .non, .str "3"]) := upd_same
      have la : l ≠ a := (ne_of_none (upd_same (H := H') (a := a) (o := o3)) hl).symm
      refine ⟨_, rfl, a, o3, 8, rfl, a3, B3, by decide, by decide, fun y4 o4 y40 y41 B4 => ?_⟩
      obtain ⟨v, hv, hv2⟩ := eight_at (x0 := .int y1) (x1 := .int y2) (x2 := .int 399) (x3 := .int 400) (x4 := .int (-1)) (x5 := .bl true) (x6 := .non) (x7 := .str "3") y40 y41
      have ask : Ask v := by
        rcases hv2 with rfl | rfl | rfl | rfl | rfl | rfl | rfl | rfl
        · exact .int _
        · exact .int _
        · exact .int _
        · exact .int _
        · exact .int _
        · exact .bl _
        · exact .non
        · exact .str _
      clear hv2
      have l4 := SqL.of (K := K) (show (upd (upd (upd H' a o3) l (.lst [.int y1, .int y2, .int 399, .int 400, .int (-1), .bl true, .non, .str "3"])) a o4) l = some (.lst [.int y1, .int y2, .int 399, .int 400, .int (-1), .bl true, .non, .str "3"]) by rw [upd_ne la]; exact l3)
      refine ⟨l, _, _, _, rfl, rfl, l4, hv, ?_⟩
      have k4 := k3.kept (Kept.upd (o := o4) B4)
      clear l4 l3 a3
      generalize upd (upd (upd H' a o3) l (.lst [.int y1, .int y2, .int 399, .int 400, .int (-1), .bl true, .non, .str "3"])) a o4 = G1 at k4 ⊢
      have rp4 := rp.kb bx tab k4
      have e4 := k4.lst tab nqa eq_
      cases ask with
      | int i =>
        refine ⟨_, rfl, _, rfl, .int _, _, rfl, iteT ⟨_, rfl, _, rfl, .int _, ?_⟩⟩
        refine ⟨_, rfl, _, rfl, iteT ⟨_, rfl, _, rfl, q, _, rfl, .inl (SqL.of e4), rfl, flat_nums _, ?_⟩⟩
        rw [inV_nums]
        refine ⟨_, rfl, _, rfl, p, r, _, rfl, rp4, ti, .int _, k4.tab, fun H5 n5 => ?_⟩
        refine ⟨_, rfl, _, rfl, .bl _, _, rfl, iteF ?_⟩
        refine ⟨_, rfl, _, rfl, rfl, _, rfl, ?_⟩
        exact ifEq rfl ⟨_, _, _, _, rfl, k4.nw n5⟩
      | bl b =>
        refine ⟨_, rfl, _, rfl, .bl _, _, rfl, iteT ⟨_, rfl, _, rfl, .bl _, ?_⟩⟩
        refine ⟨_, rfl, _, rfl, iteF ?_⟩
        refine ⟨_, rfl, _, rfl, p, r, _, rfl, rp4, ti, .bl _, k4.tab, fun H5 n5 => ?_⟩
        refine ⟨_, rfl, _, rfl, .bl _, _, rfl, iteF ?_⟩
        refine ⟨_, rfl, _, rfl, rfl, _, rfl, ?_⟩
        exact iteF ⟨_, _, _, _, rfl, k4.nw n5⟩
      | non =>
        refine ⟨_, rfl, _, rfl, .non, _, rfl, iteF ?_⟩
        refine ⟨_, rfl, _, rfl, p, r, _, rfl, rp4, ti, .non, k4.tab, fun H5 n5 => ?_⟩
        refine ⟨_, rfl, _, rfl, .bl _, _, rfl, iteF ?_⟩
        refine ⟨_, rfl, _, rfl, rfl, _, rfl, ?_⟩
        exact iteF ⟨_, _, _, _, rfl, k4.nw n5⟩
      | str z =>
        refine ⟨_, rfl, _, rfl, .str _, _, rfl, iteF ?_⟩
        refine ⟨_, rfl, _, rfl, p, r, _, rfl, rp4, ti, .str _, k4.tab, fun H5 n5 => ?_⟩
        refine ⟨_, rfl, _, rfl, .bl _, _, rfl, iteF ?_⟩
        refine ⟨_, rfl, _, rfl, rfl, _, rfl, ?_⟩
        exact iteF ⟨_, _, _, _, rfl, k4.nw n5⟩
    · rintro σ H' ⟨v2, v4, v5, v6, rfl, kb⟩
      exact k _ kb
end
end LL
namespace LL
open PySem PySem.Spec PyProof.Rows L2
theorem cut_to (xs : List V) (k : Nat) : cutV xs none (some (k : Int)) = xs.take k := by
  unfold cutV
  have s1 : HT.sIx xs.length 0 none = 0 := rfl
  have s2 : HT.sIx xs.length xs.length (some (k : Int)) = min k xs.length := HT.sIx_nat _ _ _
  rw [s1, s2, List.drop_zero, Nat.sub_zero]
  rcases Nat.le_total k xs.length with h | h
  · rw [Nat.min_eq_left h]
  · rw [Nat.min_eq_right h, List.take_of_length_le (Nat.le_refl _), List.take_of_length_le h]
theorem nums_take (ns : List Nat) (k : Nat) : (nums ns).take k = nums (ns.take k) := List.map_take.symm
theorem nums_app (ns ms : List Nat) : nums ns ++ nums ms = nums (ns ++ ms) := List.map_append.symm
theorem in_ms (i : Nat) (ms : List Nat) : inV (.int ((0 : Int) + (i : Int))) (nums ms) = decide (i ∈ ms) := by
  rw [inV_nums, decide_eq_decide]
  constructor
  · rintro ⟨n, hn, e⟩
    have : n = i := by omega
    rw [← this]
    exact hn
  · exact fun h => ⟨i, h, by omega⟩
theorem has_rev (r : List Pr) (n : Nat) : has r.reverse n = has r n := by
  unfold has
  rw [List.any_reverse]
theorem PrsAt.rev {H : Hp} {qs : List Addr} {r : List Pr} (h : PrsAt H qs r) : PrsAt H qs.reverse r.reverse := by
  induction h with
  | nil => exact .nil
  | cons a _ ih =>
    rw [List.reverse_cons, List.reverse_cons]
    exact ih.app (.cons a .nil)
theorem same_row {t d : List Pr} (tt : Tidy t) (td : Tidy d) (h : ∀ n, n < 400 → has t n = has d n) : t = d := tidy_eq tt td fun n => by
  by_cases l : n < 400
  · exact h n l
  · rw [show has t n = false from ?_, show has d n = false from ?_]
    · cases q : has d n with
      | false => rfl
      | true => exact absurd (has_lt (TidyFrom.valid (b := 0) td) q) l
    · cases q : has t n with
      | false => rfl
      | true => exact absurd (has_lt (TidyFrom.valid (b := 0) tt) q) l
/-- a list or a tuple of these stretches, as data -/
def SqD (H : Hp) (a : Addr) (r : List Pr) (d : PyData) : Prop := ∃ qs : List Addr, PrsAt H qs r ∧ ((H a = some (.lst (qs.map V.ref)) ∧ d = .list (r.map prDat)) ∨ (H a = some (.tup (qs.map V.ref)) ∧ d = .tuple (r.map prDat)))
theorem SqD.sq {H : Hp} {a : Addr} {r : List Pr} {d : PyData} (h : SqD H a r d) : RowSq H a r := by
  obtain ⟨qs, p, ⟨e, _⟩ | ⟨e, _⟩⟩ := h
  · exact ⟨qs, .inl e, p⟩
  · exact ⟨qs, .inr e, p⟩
theorem SqD.dp {K : PySem.W.Frag} {H : Hp} {a : Addr} {r : List Pr} {d : PyData} (h : SqD H a r d) : Dp K H (.ref a) d := by
  obtain ⟨qs, p, ⟨e, rfl⟩ | ⟨e, rfl⟩⟩ := h
  · exact .lst (SqL.of e) p.dp
  · exact .tup (SqT.of e) p.dp
theorem SqD.disp {H : Hp} {a : Addr} {r : List Pr} {d : PyData} (h : SqD H a r d) : isDisplay d = true := by
  obtain ⟨qs, p, ⟨e, rfl⟩ | ⟨e, rfl⟩⟩ := h <;> rfl
theorem sm_row1 {r : List Pr} (v : Valid r) (l : r.length ≤ 400) : SmAll (r.map prDat) 1 9200 := by
  refine (smAll_of (ds := r.map prDat) (k := 1) (W := 22) fun d hd => ?_).mono (Nat.le_refl _) ?_
  · obtain ⟨z, hz, rfl⟩ := List.mem_map.mp hd
    exact sm_pr (v z hz)
  · rw [List.length_map]
    omega
theorem SqD.sm {H : Hp} {a : Addr} {r : List Pr} {d : PyData} (h : SqD H a r d) (v : Valid r) (l : r.length ≤ 400) : Sm d 60 1048576 := by
  obtain ⟨qs, p, ⟨e, rfl⟩ | ⟨e, rfl⟩⟩ := h
  · exact (sm_row1 v l).list.mono (by decide) (by decide)
  · exact (sm_row1 v l).tuple.mono (by decide) (by decide)
theorem SqD.keep {H H' : Hp} {a : Addr} {r : List Pr} {d : PyData} (k : Keep H H') (h : SqD H a r d) : SqD H' a r d := by
  obtain ⟨qs, p, ⟨e, rfl⟩ | ⟨e, rfl⟩⟩ := h
  · exact ⟨qs, p.put fun q xs e => k _ _ (fun q z => by cases z) e, .inl ⟨k _ _ (fun q z => by cases z) e, rfl⟩⟩
  · exact ⟨qs, p.put fun q xs e => k _ _ (fun q z => by cases z) e, .inr ⟨k _ _ (fun q z => by cases z) e, rfl⟩⟩
theorem SqD.kb {a b P : Addr} {H H' : Hp} {r : List Pr} {d : PyData} (h : SqD H b r d) (n : b ≠ a) (bx : ∃ o, H a = some o ∧ BoxO o) (t : GxR.TabG H P) (x : Kb a P H H') : SqD H' b r d := by
  obtain ⟨qs, p, ⟨e, rfl⟩ | ⟨e, rfl⟩⟩ := h
  · exact ⟨qs, p.kb bx t x, .inl ⟨x.lst t n e, rfl⟩⟩
  · exact ⟨qs, p.kb bx t x, .inr ⟨x.tup t n e, rfl⟩⟩
theorem SqD.neBox {H : Hp} {a b : Addr} {r : List Pr} {d : PyData} (h : SqD H b r d) (bx : ∃ o, H a = some o ∧ BoxO o) : b ≠ a := by
  obtain ⟨qs, p, ⟨e, rfl⟩ | ⟨e, rfl⟩⟩ := h
  · exact RowAt.neBox ⟨qs, e, p⟩ bx
  · obtain ⟨o, e2, x0, y0, z0, rfl, _⟩ := bx
    intro z
    rw [z, e2] at e
    cases e
/-- every second number -/
def oddN : List Nat := (List.range 200).map fun i => 1 + 2 * i
def odds : List Pr := (List.range 200).map fun i => (1 + 2 * i, 2 + 2 * i)
def evens : List Pr := (List.range 200).map fun i => (398 - 2 * i, 399 - 2 * i)
theorem odds_tidy : Tidy odds := by decide +kernel
theorem all_tidy : Tidy [(0, 400)] := by decide +kernel
theorem singles_ok : (odds ++ evens).length = 400 ∧ ∀ n, n < 400 → has (odds ++ evens) n = has [(0, 400)] n := by decide +kernel
theorem singles_valid : Valid (odds ++ evens) := by
  unfold Valid
  decide +kernel
theorem odd_lt : ∀ n ∈ oddN, n < 400 := by decide +kernel
theorem odd_has : ∀ n, n < 400 → has odds n = decide (n ∈ oddN) := by decide +kernel
theorem all_has : ∀ n, n < 400 → has [(0, 400)] n = decide (n ∈ List.range 400) := by decide +kernel
theorem odd_steps : steps 1 2 200 = nums oddN := by
  unfold steps nums oddN
  rw [List.map_map]
  refine List.map_congr_left fun i _ => ?_
  show V.int (1 + (i : Int) * 2) = V.int ((1 + 2 * i : Nat) : Int)
  congr 1
  omega
theorem all_steps : rgV 0 400 = nums (List.range 400) := by
  unfold rgV nums
  refine List.map_congr_left fun i _ => ?_
  show V.int (0 + (i : Int)) = V.int (i : Int)
  rw [Int.zero_add]
section
variable {P : Program} {w : World} {K : PySem.W.Frag} {mg : Str → Option Value} {base : Heap} {c tb : Addr}
def spLaw (K : PySem.W.Frag) (tb : Addr) : Sp := fun vs H Q _ => ∃ (a : Addr) (ns : List Int), vs = [.ref a] ∧ SqL K H a (ns.map V.int) ∧ ns.length ≤ 63 ∧ GxR.TabG H tb ∧ ∀ H', Q (.bl true) H'
theorem ok_law (D : Defs K mg) (T : Tx K mg) (hc : D.is_runs.fd.code = .ref c) (TB : GxR.TabB base mg c tb) : FnG P w K mg base 12 D.law.f D.law.fd ["_law_script"] (spLaw K tb) := by
  have G_law_box := ok__law_box (P := P) (w := w) (base := base) D T
  have G_law_stretches := ok__law_stretches (P := P) (w := w) (base := base) D T
  have G_law_marks := ok__law_marks (P := P) (w := w) (base := base) D T
  have G_law_rising := ok__law_rising (P := P) (w := w) (base := base) D T
  have G_law_mixed := ok__law_mixed (P := P) (w := w) (base := base) D T
  have G_law_cell_at := ok__law_cell_at (P := P) (w := w) (base := base) D T
  have Gruns_of := ok_runs_of (P := P) (w := w) (base := base) D T (tb := tb)
  have Gruns_by := ok_runs_by (P := P) (w := w) (base := base) D T (tb := tb)
  have G_law_take := ok__law_take (P := P) (w := w) (base := base) D T
  have G_law_right := ok__law_right (P := P) (w := w) (base := base) D T hc TB
  have Gis_stretch := ok_is_stretch (P := P) (w := w) (base := base) D T
  refine fnG_of D.law.F sclaw (fun vs H Q E h => ?_) (fun cdv A outer s H vs Q E guard hr h => ?_)
  · obtain ⟨a, ns, rfl, _⟩ := h
    rfl
  · obtain ⟨a, ns, rfl, hS, len, tab, k⟩ := h
    refine ⟨_, (pss_cons (ps_for PassesOwn.never rfl (pi_range1 rfl T.b_range (pa_cons (pe_callB (call_max2 rfl) (by rfl) T.b_max (by decide +kernel) (pa_cons pe_int (pa_cons (pe_callB (call_min2 rfl) (by rfl) T.b_min (by decide +kernel) (pa_cons (pe_callB call_len_seq (by rfl) T.b_len (by decide +kernel) (pa_cons (pv 0) pa_nil)) (pa_cons pe_int pa_nil))) pa_nil))) pa_nil)) (pg_name (i := 1) sclaw.nd rfl (Or.inl rfl)) (pss_cons (ps_set (i := 2) sclaw.nd rfl (Or.inl rfl) (pcall D._law_box G_law_box hr (by decide) (by rfl) (pa_cons (pcall D._law_cell_at G_law_cell_at hr (by decide) (by rfl) (pa_cons (pv 0) (pa_cons (pv 1) pa_nil))) pa_nil)))
        (pss_cons (ps_set (i := 3) sclaw.nd rfl (Or.inl rfl) (pcall D._law_stretches G_law_stretches hr (by decide) (by rfl) (pa_cons (pv 2) (pa_cons (pe_ix ix_list (pe_lst (pa_cons pe_int (pa_cons pe_int (pa_cons pe_int pa_nil)))) (pcall D._law_take G_law_take hr (by decide) (by rfl) (pa_cons (pv 2) (pa_cons pe_int pa_nil))) (fun _ _ => rfl)) pa_nil))))
        (pss_cons (ps_set (i := 4) sclaw.nd rfl (Or.inr rfl) (pcall D._law_marks G_law_marks hr (by decide) (by rfl) (pa_cons (pv 3) pa_nil)))
        (pss_cons (ps_set (i := 5) sclaw.nd rfl (Or.inl rfl) (pcall D._law_rising G_law_rising hr (by decide) (by rfl) (pa_cons (pv 4) pa_nil)))
        (pss_cons (ps_setLc (i := 6) (own := [("_law_number", 7)]) (g := gName 7) rfl sclaw.nd rfl rfl (sw_true rfl rfl rfl (by decide +kernel)) (pi_range1 rfl T.b_range (pa_cons pe_int pa_nil)) (blkOk_by (N := sclaw_N) (sc := defScope sclaw_st) (by decide +kernel)) (fun _ _ _ _ _ => pg_name (i := 7) sclaw.nd rfl (Or.inl rfl)) (fun _ _ _ _ _ => pts_one (pt_val (pe_ix (ix_listK (K := K) rfl) (pv 4) (pv 7) (fun _ _ => rfl)))) (fun _ _ _ _ _ => (pv 7)))
        (pss_cons (ps_for PassesOwn.never rfl (pi_list (pe_lst (pa_cons (pe_callTy call_list_of (by rfl) T.b_list (by decide +kernel) (pa_cons (pv 3) pa_nil)) (pa_cons (pe_callTy call_tuple_of (by rfl) T.b_tuple (by decide +kernel) (pa_cons (pv 3) pa_nil)) (pa_cons (pe_lstRev rfl (by rfl) T.b_list (by rfl) T.b_reversed (pv 3)) pa_nil))))) (pg_name (i := 8) sclaw.nd rfl (Or.inl rfl)) (pss_cons (ps_set (i := 9) sclaw.nd rfl (Or.inl rfl) (pe_callB (call_reprM guard hr) (by rfl) T.b_repr (by decide +kernel) (pa_cons (pv 8) pa_nil)))
        (pss_cons (ps_set (i := 10) sclaw.nd rfl (Or.inl rfl) (pcall D.runs_of Gruns_of hr (by decide) (by rfl) (pa_cons (pv 8) pa_nil)))
        (pss_cons (ps_if (PW.pt (pw_or (pt_cmpR op_ne (pe_callB (call_reprM guard hr) (by rfl) T.b_repr (by decide +kernel) (pa_cons (pv 8) pa_nil)) (pv 9) (nomark _)) (pw_or1 (pt_not (pt_val (pcallG D._law_right G_law_right guard hr (by decide) (by rfl) (pa_cons (pv 2) (pa_cons (pv 10) (pa_cons (pv 5) (pa_cons (pv 6) pa_nil)))))))))) (pss_one (ps_ret pe_bl)) pss_nil)
        (pss_one (ps_expr (pe_bm PySem.F.plainAttrs_list PySem.F.slot_list_append PySem.F.type_list_append mt_append (pv 10) (pa_cons (pe_tup (pa_cons pe_int (pa_cons pe_int pa_nil))) pa_nil))))))))
        (pss_cons (ps_if (PW.pt (pw_or (pt_cmpR (op_neD hr.units) (pe_lc (own := [("_law_one", 11)]) (g := gName 11) rfl sclaw.nd (pi_list (pv 3)) (blkOk_by (N := sclaw_N) (sc := defScope sclaw_st) (by decide +kernel)) (fun _ _ _ _ _ => pg_name (i := 11) sclaw.nd rfl (Or.inl rfl)) (fun _ _ _ _ _ => pts_one (pt_cmpR op_notBl (pcall D.is_stretch Gis_stretch hr (by decide) (by rfl) (pa_cons (pv 11) pa_nil)) pe_bl (nomark _))) (fun _ _ _ _ _ => (pv 11))) (pe_lst pa_nil) (nomark _)) (pw_or1 (pt_cmpR op_ne (pe_callB (call_reprM guard hr) (by rfl) T.b_repr (by decide +kernel) (pa_cons (pcall D.runs_of Gruns_of hr (by decide) (by rfl) (pa_cons (pv 5) pa_nil)) pa_nil)) (pe_callB (call_reprM guard hr) (by rfl) T.b_repr (by decide +kernel) (pa_cons (pv 5) pa_nil)) (nomark _))))) (pss_one (ps_ret pe_bl)) pss_nil)
        (pss_cons (ps_set (i := 12) sclaw.nd rfl (Or.inr rfl) (pcall D._law_mixed G_law_mixed hr (by decide) (by rfl) (pa_cons (pv 2) (pa_cons (pe_op op_cat (pe_slice sl_list (pv 6) po_none (po_some pe_int)) (pe_slice sl_list (pv 6) po_none (po_some pe_int))) pa_nil))))
        (pss_cons (ps_set (i := 13) sclaw.nd rfl (Or.inl rfl) (pcall D._law_rising G_law_rising hr (by decide) (by rfl) (pa_cons (pe_lc (own := [("_law_number", 7)]) (g := gName 7) (tt := tYes) rfl sclaw.nd (pi_range1 rfl T.b_range (pa_cons pe_int pa_nil)) (blkOk_by (N := sclaw_N) (sc := defScope sclaw_st) (by decide +kernel)) (fun _ _ _ _ _ => pg_name (i := 7) sclaw.nd rfl (Or.inl rfl)) (fun _ _ _ _ _ => pts_nil) (fun _ _ _ _ _ => (pe_cmpR (op_in_seqK (K := K) rfl) (pv 7) (pv 12) (by rfl)))) pa_nil)))
        (pss_one (ps_if (PW.pt (pw_or (pt_cmpR op_ne (pe_callB (call_reprM guard hr) (by rfl) T.b_repr (by decide +kernel) (pa_cons (pcall D.runs_by Gruns_by hr (by decide) (by rfl) (pa_cons (pv 12) pa_nil)) pa_nil)) (pe_callB (call_reprM guard hr) (by rfl) T.b_repr (by decide +kernel) (pa_cons (pv 13) pa_nil)) (nomark _)) (pw_or1 (pt_cmpR op_ne (pe_callB (call_reprM guard hr) (by rfl) T.b_repr (by decide +kernel) (pa_cons (pcall D.runs_by Gruns_by hr (by decide) (by rfl) (pa_cons (pe_callTy call_tuple_of (by rfl) T.b_tuple (by decide +kernel) (pa_cons (pv 12) pa_nil)) pa_nil)) pa_nil)) (pe_callB (call_reprM guard hr) (by rfl) T.b_repr (by decide +kernel) (pa_cons (pv 13) pa_nil)) (nomark _))))) (pss_one (ps_ret pe_bl)) pss_nil))))))))))))
        (pss_cons (ps_set (i := 14) sclaw.nd rfl (Or.inl rfl) (pe_lstStep rfl (by rfl) T.b_list (by rfl) T.b_range (pa_cons pe_int (pa_cons pe_int (pa_cons pe_int pa_nil)))))
        (pss_cons (ps_if (PW.pt (pw_or (pt_cmpR (op_neD hr.units) (pcall D.runs_by Gruns_by hr (by decide) (by rfl) (pa_cons (pe_op op_cat (pv 14) (pe_slice sl_list (pv 14) po_none (po_some pe_int))) pa_nil)) (pe_lc (own := [("_law_number", 7)]) (g := gName 7) (tt := tYes) rfl sclaw.nd (pi_list (pv 14)) (blkOk_by (N := sclaw_N) (sc := defScope sclaw_st) (by decide +kernel)) (fun _ _ _ _ _ => pg_name (i := 7) sclaw.nd rfl (Or.inl rfl)) (fun _ _ _ _ _ => pts_nil) (fun _ _ _ _ _ => (pe_tup (pa_cons (pv 7) (pa_cons (pe_op op_add (pv 7) pe_int) pa_nil))))) (nomark _)) (pw_or1 (pt_cmpR (op_neD hr.units) (pcall D.runs_by Gruns_by hr (by decide) (by rfl) (pa_cons (pe_listRg rfl (by rfl) T.b_list (prg_1 (by rfl) T.b_range pe_int)) pa_nil)) (pe_lst (pa_cons (pe_tup (pa_cons pe_int (pa_cons pe_int pa_nil))) pa_nil)) (nomark _))))) (pss_one (ps_ret pe_bl)) pss_nil)
        (pss_cons (ps_set (i := 15) sclaw.nd rfl (Or.inl rfl) (pe_op op_cat (pe_lc (own := [("_law_number", 7)]) (g := gName 7) (tt := tYes) rfl sclaw.nd (pi_list (pv 14)) (blkOk_by (N := sclaw_N) (sc := defScope sclaw_st) (by decide +kernel)) (fun _ _ _ _ _ => pg_name (i := 7) sclaw.nd rfl (Or.inl rfl)) (fun _ _ _ _ _ => pts_nil) (fun _ _ _ _ _ => (pe_tup (pa_cons (pv 7) (pa_cons (pe_op op_add (pv 7) pe_int) pa_nil))))) (pe_lc (own := [("_law_number", 7)]) (g := gName 7) (tt := tYes) rfl sclaw.nd (pi_range3 rfl T.b_range (pa_cons pe_int (pa_cons (pe_un un_neg pe_int) (pa_cons (pe_un un_neg pe_int) pa_nil)))) (blkOk_by (N := sclaw_N) (sc := defScope sclaw_st) (by decide +kernel)) (fun _ _ _ _ _ => pg_name (i := 7) sclaw.nd rfl (Or.inl rfl)) (fun _ _ _ _ _ => pts_nil) (fun _ _ _ _ _ => (pe_tup (pa_cons (pv 7) (pa_cons (pe_op op_add (pv 7) pe_int) pa_nil)))))))
        (pss_cons (ps_if (PW.pt (pw_or (pt_cmpR op_ne (pe_callB call_len_seq (by rfl) T.b_len (by decide +kernel) (pa_cons (pv 15) pa_nil)) pe_int (nomark _)) (pw_or (pt_cmpR (op_neD hr.units) (pcall D.runs_of Gruns_of hr (by decide) (by rfl) (pa_cons (pv 15) pa_nil)) (pe_lst (pa_cons (pe_tup (pa_cons pe_int (pa_cons pe_int pa_nil))) pa_nil)) (nomark _)) (pw_or1 (pt_cmpR (op_neD hr.units) (pcall D.runs_by Gruns_by hr (by decide) (by rfl) (pa_cons (pe_revL (pv 14)) pa_nil)) (pcall D.runs_by Gruns_by hr (by decide) (by rfl) (pa_cons (pv 14) pa_nil)) (nomark _)))))) (pss_one (ps_ret pe_bl)) pss_nil)
        (pss_one (ps_ret (pe_and (pe_cmpR (op_eqD hr.units) (pcall D.runs_of Gruns_of hr (by decide) (by rfl) (pa_cons (pe_lst pa_nil) pa_nil)) (pe_lst pa_nil) (nomark _)) (pe_one (pe_cmpR (op_eqD hr.units) (pcall D.runs_by Gruns_by hr (by decide) (by rfl) (pa_cons (pe_tup pa_nil) pa_nil)) (pe_lst pa_nil) (nomark _))))))))))), ?_⟩
    refine ⟨_, rfl, a, _, rfl, .inl hS, _, _, rfl, _, _, rfl, _, rfl, ?_, ?_, for_range (lo := 0) (fun i σ H1 => ∃ v1 v2 v3 v4 v5 v6 v7 v8 v9 v10 v11 v12 v13 v14 v15, σ = [some (.ref a), v1, v2, v3, v4, v5, v6, v7, v8, v9, v10, v11, v12, v13, v14, v15] ∧ Nw tb H H1)
      ⟨_, _, _, _, _, _, _, _, _, _, _, _, _, _, _, rfl, Nw.refl tab⟩ ?_ ?_⟩
    · split <;> split <;> omega
    · split <;> split <;> omega
    · rintro i σ H1 hi ⟨v1, v2, v3, v4, v5, v6, v7, v8, v9, v10, v11, v12, v13, v14, v15, rfl, nw⟩
      -- the box
      refine ⟨_, rfl, _, rfl, a, i, ns, congrArg (fun y : Int => [V.ref a, V.int y]) (Int.zero_add _), sqL_nw nw hS, fun cell => ⟨cell, rfl, fun p o hp Bo => ?_⟩⟩
      have p0 := nw.free hp
      have nb := nw.new hp (u := o)
      have ep : (upd H1 p o) p = some o := upd_same
      generalize upd H1 p o = H2 at nb ep ⊢
      refine ⟨_, rfl, (by show 3 ≤ sizeLine; decide), fun q1 hq1 => ?_⟩
      have nb1 := nb.new hq1 (u := .lst [.int 12, .int 40, .int 400])
      have ep1 : (upd H2 q1 (.lst [.int 12, .int 40, .int 400])) p = some o := by rw [upd_ne (ne_of_none ep hq1)]; exact ep
      have e1 : (upd H2 q1 (.lst [.int 12, .int 40, .int 400])) q1 = some (.lst [.int 12, .int 40, .int 400]) := upd_same
      have n1 : q1 ≠ p := (ne_of_none ep hq1).symm
      generalize upd H2 q1 (.lst [.int 12, .int 40, .int 400]) = H3 at nb1 ep1 e1 ⊢
      refine ⟨_, rfl, p, o, 3, rfl, ep1, Bo, by decide, by decide, fun r1 o1 r10 r11 B1 => ?_⟩
      obtain ⟨v, hv, hv2⟩ := three_at (x0 := .int 12) (x1 := .int 40) (x2 := .int 400) r10 r11
      obtain ⟨m, rfl, m0, m4⟩ : ∃ m : Int, v = .int m ∧ 0 < m ∧ m ≤ 400 := by
        rcases hv2 with rfl | rfl | rfl
        · exact ⟨12, rfl, by decide, by decide⟩
        · exact ⟨40, rfl, by decide, by decide⟩
        · exact ⟨400, rfl, by decide, by decide⟩
      refine ⟨q1, _, _, _, rfl, rfl, SqL.of (by rw [upd_ne n1]; exact e1), hv, ?_⟩
      have nb2 := nb1.kept p0 ⟨o, ep1, Bo⟩ (Kept.upd (o := o1) B1)
      have ep2 : (upd H3 p o1) p = some o1 := upd_same
      generalize upd H3 p o1 = H4 at nb2 ep2 ⊢
      -- the stretches, the marks, what is due
      refine ⟨p, o1, m, rfl, ep2, B1, m0, m4, fun r ps H5 va rl k5 f5 row5 => ?_⟩
      have n5 := nb2.kept p0 ⟨o1, ep2, B1⟩ k5
      refine ⟨_, rfl, ps, r, rfl, row5, va, fun pm H6 x6 f6 em => ?_⟩
      refine ⟨_, rfl, pm, has r, rfl, em, fun d pd H7 Td hd x7 f7 rowd => ?_⟩
      have x57 := x6.trans x7
      have n7 := n5.trans (x57.nw n5.tab)
      have bx7 := (x57.kept k5.box).box
      have row7 := x57.row row5
      have em7 := x7 _ _ em
      have npd : pd ≠ p := rowd.neBox bx7
      -- the numbers
      have hdr : numsOf d = (List.range 400).filter (has r) := List.filter_congr fun n hn => hd n (List.mem_range.mp hn)
      refine ⟨400, rfl, by decide, by decide, fun pn hpn => ?_⟩
      refine lc_range (lo := 0) (n := (400 : Int).toNat) (fun j H' => H' = upd H7 pn (.lst (nums ((List.range j).filter (has r))))) rfl ?_ ?_
      · rintro j H' hj rfl
        have hj : j < 400 := hj
        refine ⟨rfl, ?_⟩
        have mk : atI (marks (has r)) ((0 : Int) + (j : Int)) = some (.bl (has r j)) := by rw [Int.zero_add]; exact marks_at _ hj
        refine ⟨_, rfl, _, rfl, pm, _, _, _, rfl, rfl, SqL.of (by rw [upd_ne (ne_of_none em7 hpn)]; exact em7), mk, _, rfl, ?_⟩
        cases hb : has r j with
        | true =>
          refine iteT ⟨_, rfl, _, upd_same, ?_, ?_⟩
          · rw [nums_len]
            have := List.length_filter_le (has r) (List.range j)
            rw [List.length_range] at this
            have := PySem.sizeLine_eq
            omega
          · rw [upd_upd, filt_one hb, ← nums_app, Int.zero_add]
            rfl
        | false =>
          refine iteF ?_
          rw [filt_gap (Nat.le_succ j) (fun n a b => by rw [show n = j by omega]; exact hb)]
      · rintro H8 rfl
        have x8 : Exd H7 (upd H7 pn (.lst (nums ((List.range (400 : Int).toNat).filter (has r))))) := (Exd.refl _).new hpn
        have epn : (upd H7 pn (.lst (nums ((List.range (400 : Int).toNat).filter (has r))))) pn = some (.lst (nums (numsOf d))) := by rw [upd_same, hdr]; rfl
        generalize upd H7 pn (.lst (nums ((List.range (400 : Int).toNat).filter (has r)))) = H8 at x8 epn ⊢
        have n8 := n7.trans (x8.nw n7.tab)
        have npn : pn ≠ p := by
          obtain ⟨ob, eb, _⟩ := bx7
          exact (ne_of_none eb hpn).symm
        obtain ⟨qs, eqs, prs⟩ := id (x8.row row7)
        have bx8 := (x8.kept bx7).box
        -- what is handed in
        refine ⟨_, rfl, ps, _, rfl, .inl (SqL.of eqs), fun l1 hl1 => ?_⟩
        have y1 : Exd H8 (upd H8 l1 (.lst (qs.map V.ref))) := (Exd.refl _).new hl1
        have c1 : (upd H8 l1 (.lst (qs.map V.ref))) l1 = some (.lst (qs.map V.ref)) := upd_same
        generalize upd H8 l1 (.lst (qs.map V.ref)) = G1 at y1 c1 ⊢
        refine ⟨_, rfl, ps, _, rfl, .inl ⟨SqL.of (y1 _ _ eqs), fun l2 hl2 => ?_⟩⟩
        have y2 := y1.new hl2 (u := .tup (qs.map V.ref))
        have c12 := (Exd.refl _).new hl2 (u := .tup (qs.map V.ref)) _ _ c1
        have c2 : (upd G1 l2 (.tup (qs.map V.ref))) l2 = some (.tup (qs.map V.ref)) := upd_same
        generalize upd G1 l2 (.tup (qs.map V.ref)) = G2 at y2 c12 c2 ⊢
        refine ⟨_, rfl, ps, _, rfl, SqL.of (y2 _ _ eqs), fun l3 hl3 => ?_⟩
        have y3 := y2.new hl3 (u := .lst (qs.map V.ref).reverse)
        have c13 := (Exd.refl _).new hl3 (u := .lst (qs.map V.ref).reverse) _ _ c12
        have c23 := (Exd.refl _).new hl3 (u := .lst (qs.map V.ref).reverse) _ _ c2
        have c3 : (upd G2 l3 (.lst (qs.map V.ref).reverse)) l3 = some (.lst (qs.reverse.map V.ref)) := by rw [upd_same, List.map_reverse]
        generalize upd G2 l3 (.lst (qs.map V.ref).reverse) = G3 at y3 c13 c23 c3 ⊢
        refine ⟨(by show 3 ≤ sizeLine; decide), fun L hL => ?_⟩
        have y4 := y3.new hL (u := .lst [.ref l1, .ref l2, .ref l3])
        have y34 : Exd G3 (upd G3 L (.lst [.ref l1, .ref l2, .ref l3])) := (Exd.refl _).new hL
        have eL : (upd G3 L (.lst [.ref l1, .ref l2, .ref l3])) L = some (.lst ([l1, l2, l3].map V.ref)) := upd_same
        generalize upd G3 L (.lst [.ref l1, .ref l2, .ref l3]) = G4 at y4 y34 eL ⊢
        have pr4 : PrsAt G4 qs r := prs.put fun q xs e => y4 _ _ e
        have hand : ∀ z ∈ [l1, l2, l3], ∃ rz dz, SqD G4 z rz dz ∧ Valid rz ∧ rz.length ≤ 400 ∧ ∀ n, has rz n = has r n := fun z hz => by
          simp only [List.mem_cons, List.not_mem_nil, or_false] at hz
          rcases hz with rfl | rfl | rfl
          · exact ⟨r, _, ⟨qs, pr4, .inl ⟨y34 _ _ c13, rfl⟩⟩, va, by omega, fun n => rfl⟩
          · exact ⟨r, _, ⟨qs, pr4, .inr ⟨y34 _ _ c23, rfl⟩⟩, va, by omega, fun n => rfl⟩
          · exact ⟨r.reverse, _, ⟨qs.reverse, pr4.rev, .inl ⟨y34 _ _ c3, rfl⟩⟩, fun z hz => va z (List.mem_reverse.mp hz), by rw [List.length_reverse]; omega, fun n => has_rev r n⟩
        have bx4 := (y4.kept bx8).box
        have n4 := n8.trans (y4.nw n8.tab)
        have rowd4 : RowAt G4 pd d := y4.row (x8.row rowd)
        have row4 : RowAt G4 ps r := y4.row (x8.row row7)
        have epn4 := y4 _ _ epn
        refine ⟨L, rfl, ⟨_, SqL.of eL⟩, for_list (K := K) (a := L) (xs := [l1, l2, l3].map V.ref) (fun j σ H' => ∃ v8 v9 v10, σ = [some (.ref a), some (.int ((0 : Int) + (i : Int))), some (.ref p), some (.ref ps), some (.ref pm), some (.ref pd), some (.ref pn), v7, v8, v9, v10, v11, v12, v13, v14, v15] ∧ Kb p tb G4 H')
          ⟨_, _, _, rfl, Kb.refl bx4 n4.tab⟩ (fun j σ H' _ ⟨_, _, _, _, kb⟩ => SqL.of (kb.lst n4.tab ?_ eL)) ?_ ?_⟩
        · obtain ⟨ob, eb, _⟩ := (y3.kept bx8).box
          exact (ne_of_none eb hL).symm
        · rintro j x σ H9 hx ⟨v8', v9', v10', rfl, kb⟩
          obtain ⟨z, hz, rfl⟩ := List.mem_map.mp (List.mem_of_getElem? hx)
          clear hx
          obtain ⟨rz, dz, sq, vz, lz, same⟩ := hand z hz
          have sq9 := sq.kb (sq.neBox bx4) bx4 n4.tab kb
          have smz := sq.sm vz lz
          refine ⟨_, rfl, .ref z, dz, rfl, sq9.dp, sq.disp, smz, ?_⟩
          refine ⟨_, rfl, z, rz, rfl, sq9.sq, vz, kb.tab, fun t pf H10 Tt ht nw10 f10 rowt => ?_⟩
          obtain rfl : t = d := same_row Tt Td fun n hn => by rw [ht, same, hd n hn]
          refine ⟨_, rfl, .ref z, dz, rfl, (sq9.keep nw10.keep).dp, sq.disp, smz, _, rfl, rfl, _, rfl, ?_⟩
          rw [decide_eq_true rfl]
          refine iteF ?_
          have kb10 := kb.nw nw10
          refine ⟨_, rfl, _, rfl, _, rfl, _, rfl, p, pf, pd, pn, t, rfl, kb10.box, rowt, rowd4.kb bx4 n4.tab kb10, Tt, npn, kb10.lst n4.tab npn epn4, kb10.tab, fun H11 kb11 => ⟨_, rfl, iteF ?_⟩⟩
          have npf := rowt.neBox kb10.box
          obtain ⟨ts, et, pt⟩ := rowt.kb kb10.box kb10.tab kb11
          refine ⟨_, rfl, .inl ⟨rfl, _, SqL.of et⟩, (by show 2 ≤ sizeLine; decide), fun w hw => ?_⟩
          refine ⟨pf, _, _, rfl, rfl, (by rw [upd_ne (ne_of_none et hw)]; exact et), ?_, _, _, _, rfl, ?_⟩
          · rw [List.length_map, pt.len]
            have := Tt.len
            have := PySem.sizeLine_eq
            omega
          · exact ((kb10.trans kb11).new hw).put (kb.free f10) npf (o := .lst (ts.map V.ref)) (by rw [upd_ne (ne_of_none et hw)]; exact et) (fun q z => by cases z)
        · rintro σ H9 ⟨v8', v9', v10', rfl, kb⟩
          have row9 := row4.kb bx4 n4.tab kb
          have rowd9 := rowd4.kb bx4 n4.tab kb
          have epn9 := kb.lst n4.tab npn epn4
          obtain ⟨qs9, eq9, pr9⟩ := id row9
          refine ⟨_, rfl, ps, rfl, ⟨_, SqL.of eq9⟩, fun D hD => ?_⟩
          have kD := kb.new hD (u := .lst [])
          have xD : Exd H9 (upd H9 D (.lst [])) := (Exd.refl _).new hD
          have eD : (upd H9 D (.lst [])) D = some (.lst (nums [])) := upd_same
          refine lc_list (K := K) (a := ps) (xs := qs9.map V.ref) (fun j H' => H' = upd H9 D (.lst [])) rfl (fun j H' _ e => by rw [e]; exact SqL.of (xD _ _ eq9)) ?_ ?_
          · rintro j x H' hx rfl
            obtain ⟨b, hb, st⟩ := ((pr9.put fun q xs e => xD _ _ e).sts (K := K) va).get hx
            obtain ⟨_, _, rfl⟩ := List.mem_map.mp (List.mem_of_getElem? hb)
            exact ⟨rfl, _, rfl, x, true, rfl, st, _, _, rfl, rfl, _, rfl, iteF rfl⟩
          · rintro H' rfl
            generalize upd H9 D (.lst []) = H10 at kD xD eD ⊢
            refine ⟨(by show 0 ≤ sizeLine; decide), fun e he => ?_⟩
            have kE := kD.new he (u := .lst [])
            have xE : Exd H10 (upd H10 e (.lst [])) := (Exd.refl _).new he
            refine ⟨natDat [], natDat [], nat_dp (xE _ _ eD), nat_dp (ns := []) upd_same, natDat_shaped _, natDat_shaped _, _, rfl, ?_⟩
            rw [natDat_eqv, decide_eq_true rfl]
            refine iteF ?_
            have xDE := xD.trans xE
            generalize upd H10 e (.lst []) = H11 at kE xDE ⊢
            have rowd11 := xDE.row rowd9
            have epn11 := xDE _ _ epn9
            -- of the tidy row again
            have vd := TidyFrom.valid (b := 0) Td
            have smd : Sm (rowDat d) 60 1048576 := (sm_row vd (by have := Td.len; omega)).mono (by decide) (by decide)
            refine ⟨_, rfl, pd, d, rfl, rowd11.sq, vd, kE.tab, fun t pt H12 Tt ht n12 f12 rowt => ?_⟩
            obtain rfl : t = d := same_row Tt Td fun n hn => ht n
            refine ⟨.ref pt, rowDat t, rfl, rowt.dp, rfl, smd, ?_⟩
            refine ⟨_, rfl, .ref pd, rowDat t, rfl, (rowd11.nw n12).dp, rfl, smd, rfl, _, rfl, ?_⟩
            rw [decide_eq_true rfl]
            refine iteF ?_
            have k12 := kE.nw n12
            have epn12 := n12.lst epn11
            generalize hG5 : H12 = G5 at k12 epn12
            -- in a drawn order, some twice
            refine ⟨_, rfl, _, rfl, 60, rfl, pn, _, rfl, SqL.of epn12, fun s1 hs1 => ?_⟩
            have c60 : cutV (nums (numsOf t)) none (some 60) = nums ((numsOf t).take 60) := (cut_to _ 60).trans (nums_take _ _)
            have c3 : cutV (nums (numsOf t)) none (some 3) = nums ((numsOf t).take 3) := (cut_to _ 3).trans (nums_take _ _)
            rw [c60]
            have x1 : Exd G5 (upd G5 s1 (.lst (nums ((numsOf t).take 60)))) := (Exd.refl _).new hs1
            have w1 : (upd G5 s1 (.lst (nums ((numsOf t).take 60)))) s1 = some (.lst (nums ((numsOf t).take 60))) := upd_same
            generalize upd G5 s1 (.lst (nums ((numsOf t).take 60))) = G6 at x1 w1 ⊢
            refine ⟨_, rfl, 3, rfl, pn, _, rfl, SqL.of (x1 _ _ epn12), fun s2 hs2 => ?_⟩
            rw [c3]
            have x2 := x1.new hs2 (u := .lst (nums ((numsOf t).take 3)))
            have w12 := (Exd.refl _).new hs2 (u := .lst (nums ((numsOf t).take 3))) _ _ w1
            have w2 : (upd G6 s2 (.lst (nums ((numsOf t).take 3)))) s2 = some (.lst (nums ((numsOf t).take 3))) := upd_same
            generalize upd G6 s2 (.lst (nums ((numsOf t).take 3))) = G7 at x2 w12 w2 ⊢
            have ln : ((numsOf t).take 60 ++ (numsOf t).take 3).length ≤ 63 := by
              rw [List.length_append, List.length_take, List.length_take]
              omega
            refine ⟨s1, s2, _, _, rfl, rfl, w12, w2, ?_, fun s3 hs3 => ?_⟩
            · rw [← List.length_append, nums_app, nums_len]
              have := PySem.sizeLine_eq
              omega
            rw [nums_app]
            have x3 := x2.new hs3 (u := .lst (nums ((numsOf t).take 60 ++ (numsOf t).take 3)))
            have w3 : (upd G7 s3 (.lst (nums ((numsOf t).take 60 ++ (numsOf t).take 3)))) s3 = some (.lst (nums ((numsOf t).take 60 ++ (numsOf t).take 3))) := upd_same
            have k13 := k12.exd x3
            have ns3 : s3 ≠ p := by
              obtain ⟨ob, eb, _⟩ := (k12.exd x2).box
              exact (ne_of_none eb hs3).symm
            generalize upd G7 s3 (.lst (nums ((numsOf t).take 60 ++ (numsOf t).take 3))) = G8 at k13 w3 ⊢
            refine ⟨p, s3, _, rfl, k13.box, ns3, w3, by omega, fun ms pe G9 mem lm kp fe ee => ?_⟩
            have lt : ∀ n ∈ ms, n < 400 := fun n hn => by
              have := (mem n).mp hn
              have : n ∈ numsOf t := by
                rcases List.mem_append.mp this with h | h
                · exact List.mem_of_mem_take h
                · exact List.mem_of_mem_take h
              exact List.mem_range.mp (List.mem_filter.mp this).1
            have k14 := k13.kept kp
            -- the due row of these
            refine ⟨400, rfl, by decide, by decide, fun Dm hDm => ?_⟩
            have ee1 : ∀ u, (upd G9 Dm u) pe = some (.lst (nums ms)) := fun u => by rw [upd_ne (ne_of_none ee hDm)]; exact ee
            refine lc_marks (fun n => decide (n ∈ ms)) (fun v => rfl) (fun j H' Q hj e q => ?_) ?_
            · refine ⟨_, rfl, _, rfl, pe, _, rfl, .inl (SqL.of (by rw [e]; exact ee1 _)), rfl, flat_nums _, ?_⟩
              rw [if_neg Bool.false_ne_true, in_ms]
              exact q
            have xm : Exd G9 (upd G9 Dm (.lst (marks fun n => decide (n ∈ ms)))) := (Exd.refl _).new hDm
            refine ⟨Dm, fun n => decide (n ∈ ms), rfl, upd_same, fun sd psh G10 Ts hs xs fs rows => ?_⟩
            have xe := xm.trans xs
            have k15 := k14.exd xe
            have ee10 := xe _ _ ee
            clear xm xs
            have same : ∀ {u : List Pr}, Tidy u → (∀ n, has u n = decide (n ∈ ms)) → u = sd := fun {u} tu hu => same_row tu Ts fun n hn => by rw [hu, hs n hn]
            have vs := TidyFrom.valid (b := 0) Ts
            have sms : Sm (rowDat sd) 60 1048576 := (sm_row vs (by have := Ts.len; omega)).mono (by decide) (by decide)
            refine ⟨_, rfl, pe, ms, rfl, .inl ee10, lt, k15.tab, fun u1 pu1 G11 Tu1 hu1 n11 fu1 ru1 => ?_⟩
            obtain rfl : u1 = sd := same Tu1 hu1
            refine ⟨.ref pu1, rowDat u1, rfl, ru1.dp, rfl, sms, ?_⟩
            refine ⟨_, rfl, .ref psh, rowDat u1, rfl, (rows.nw n11).dp, rfl, sms, rfl, _, rfl, ?_⟩
            rw [decide_eq_true rfl]
            refine iteF ?_
            refine ⟨_, rfl, pe, _, rfl, .inl ⟨SqL.of (n11.lst ee10), fun tq htq => ?_⟩⟩
            have n12' := n11.new htq (u := .tup (nums ms))
            refine ⟨tq, ms, rfl, .inr upd_same, lt, n12'.tab, fun u2 pu2 G12 Tu2 hu2 n12'' fu2 ru2 => ?_⟩
            have n13 := n12'.trans n12''
            obtain rfl : u2 = u1 := same Tu2 hu2
            refine ⟨.ref pu2, rowDat u2, rfl, ru2.dp, rfl, sms, ?_⟩
            refine ⟨_, rfl, .ref psh, rowDat u2, rfl, (rows.nw n13).dp, rfl, sms, rfl, _, rfl, ?_⟩
            rw [decide_eq_true rfl]
            refine iteF ?_
            exact ⟨_, _, _, _, _, _, _, _, _, _, _, _, _, _, _, rfl, (k15.nw n13).toNw n4 p0⟩
    · rintro σ H1 ⟨v1, v2, v3, v4, v5, v6, v7, v8, v9, v10, v11, v12, v13, v14, v15, rfl, nw⟩
      have two : ∀ (f : Nat → Pr) (i j : Int) (D : Addr) (as : List Addr) (n : Nat) (G : Hp), G D = some (.lst (as.map V.ref)) → PrsAt G as ((List.range n).map f) → (f n).1 = i → (f n).2 = j → ∀ t, G t = none →
          RowAt (upd (upd G t (.tup [.int i, .int j])) D (.lst (as.map V.ref ++ [.ref t]))) D ((List.range (n + 1)).map f) := by
        intro f i j D as n G eD pr hi hj t ht
        have nt := ne_of_none eD ht
        refine ⟨as ++ [t], ?_, ?_⟩
        · rw [List.map_append]
          exact upd_same
        · rw [List.range_succ, List.map_append]
          refine (pr.put fun q xs e => ?_).app (.cons ?_ .nil)
          · rw [upd_ne (ne_of e eD (by intro z; cases z)), upd_ne (ne_of_none e ht)]
            exact e
          · rw [upd_ne nt.symm, upd_same, ← hi, ← hj]
      have big : ∀ {G : Hp} {as : List Addr} {n : Nat} {f : Nat → Pr}, PrsAt G as ((List.range n).map f) → n < 400 → (as.map V.ref).length < sizeLine := fun {G as n f} pr h => by
        rw [List.length_map, pr.len, List.length_map, List.length_range]
        have := PySem.sizeLine_eq
        omega
      -- odd ones
      refine ⟨1, 400, 2, 200, rfl, ⟨by decide, by decide, by decide +kernel, by decide +kernel⟩, by decide, fun po hpo => ?_⟩
      rw [odd_steps]
      have m1 : Nw tb H1 (upd H1 po (.lst (nums oddN))) := (Nw.refl nw.tab).new hpo
      have eo : (upd H1 po (.lst (nums oddN))) po = some (.lst (nums oddN)) := upd_same
      generalize upd H1 po (.lst (nums oddN)) = G1 at m1 eo ⊢
      refine ⟨_, rfl, _, rfl, 9, rfl, po, _, rfl, SqL.of eo, fun s1 hs1 => ?_⟩
      have c9 : cutV (nums oddN) none (some 9) = nums (oddN.take 9) := (cut_to _ 9).trans (nums_take _ _)
      rw [c9]
      have x1 : Exd G1 (upd G1 s1 (.lst (nums (oddN.take 9)))) := (Exd.refl _).new hs1
      have w1 : (upd G1 s1 (.lst (nums (oddN.take 9)))) s1 = some (.lst (nums (oddN.take 9))) := upd_same
      generalize upd G1 s1 (.lst (nums (oddN.take 9))) = G2 at x1 w1 ⊢
      refine ⟨po, s1, _, _, rfl, rfl, x1 _ _ eo, w1, by rw [nums_len, nums_len]; decide +kernel, fun s2 hs2 => ?_⟩
      rw [nums_app]
      have x2 := x1.new hs2 (u := .lst (nums (oddN ++ oddN.take 9)))
      have w2 : (upd G2 s2 (.lst (nums (oddN ++ oddN.take 9)))) s2 = some (.lst (nums (oddN ++ oddN.take 9))) := upd_same
      generalize upd G2 s2 (.lst (nums (oddN ++ oddN.take 9))) = G3 at x2 w2 ⊢
      have m3 := m1.trans (x2.nw m1.tab)
      refine ⟨s2, _, rfl, .inl w2, fun n hn => ?_, m3.tab, fun t1 p1 G4 T1 h1 n4 f1 r1 => ?_⟩
      · rcases List.mem_append.mp hn with h | h
        · exact odd_lt n h
        · exact odd_lt n (List.mem_of_mem_take h)
      obtain rfl : t1 = odds := same_row T1 odds_tidy fun n hn => by
        rw [h1, odd_has n hn, decide_eq_decide, List.mem_append]
        exact ⟨fun h => h.elim id List.mem_of_mem_take, .inl⟩
      have m4 := m3.trans n4
      have eo4 := n4.lst (x2 _ _ eo)
      -- the pairs of odd ones
      refine ⟨_, rfl, po, rfl, ⟨_, SqL.of eo4⟩, fun D1 hD1 => ?_⟩
      have D10 := hD1
      refine lc_list (K := K) (a := po) (xs := nums oddN) (fun j H' => Nw tb G4 H' ∧ RowAt H' D1 ((List.range j).map fun i => (1 + 2 * i, 2 + 2 * i))) ⟨(Nw.refl m4.tab).new hD1, [], upd_same, .nil⟩ (fun j H' _ q => SqL.of (q.1.lst eo4)) ?_ ?_
      · rintro j x H' hx ⟨n5, as, eD, pr⟩
        have hj : j < 200 := (List.getElem?_eq_some_iff.mp hx).1
        obtain rfl : V.int ((1 + 2 * j : Nat) : Int) = x := by
          have : (nums oddN)[j]? = some (V.int ((1 + 2 * j : Nat) : Int)) := by
            unfold nums oddN
            rw [List.getElem?_map, List.getElem?_map, List.getElem?_range hj]
            rfl
          rw [this] at hx
          exact Option.some.inj hx
        refine ⟨rfl, _, rfl, _, rfl, _, _, rfl, rfl, (by show 2 ≤ sizeLine; decide), fun t ht => ?_⟩
        refine ⟨_, (by rw [upd_ne (ne_of_none eD ht)]; exact eD), big pr (by omega), (n5.new ht).put D10 (o := .lst (as.map V.ref)) (by rw [upd_ne (ne_of_none eD ht)]; exact eD) (fun q z => by cases z), ?_⟩
        exact two (fun i => (1 + 2 * i, 2 + 2 * i)) _ _ D1 as j H' eD pr (by push_cast; omega) (by push_cast; omega) t ht
      rintro G5 ⟨n5, rD1⟩
      have rD1 : RowAt G5 D1 odds := rD1
      have m5 := m4.trans n5
      have eo5 := n5.lst eo4
      refine ⟨rowDat odds, rowDat odds, (r1.nw n5).dp, rD1.dp, rowDat_shaped _, rowDat_shaped _, _, rfl, ?_⟩
      rw [rowDat_eqv, decide_eq_true rfl]
      refine iteF ?_
      -- all of them
      refine ⟨400, rfl, RgOk.of_le (by decide) (by decide) (by decide) (by decide), fun pa hpa => ?_⟩
      rw [all_steps]
      have m6 := m5.new hpa (u := .lst (nums (List.range 400)))
      refine ⟨pa, _, rfl, .inl upd_same, fun n hn => List.mem_range.mp hn, m6.tab, fun t2 p2 G6 T2 h2 n6 f2 r2 => ?_⟩
      obtain rfl : t2 = [(0, 400)] := same_row T2 all_tidy fun n hn => by rw [h2, all_has n hn]
      have n56 : Nw tb G5 G6 := ((Nw.refl m5.tab).new hpa).trans n6
      have m7 := m5.trans n56
      have eo6 := n56.lst eo5
      -- a row as written
      have one : ∀ {G u v : _}, G u = none → (upd G u (.tup [.int 0, .int 400])) v = none → RowAt (upd (upd G u (.tup [.int 0, .int 400])) v (.lst [.ref u])) v [(0, 400)] := fun {G u v} hu hv =>
        ⟨[u], upd_same, .cons (by rw [upd_ne (ne_of_none upd_same hv)]; exact upd_same) .nil⟩
      refine ⟨(by show 2 ≤ sizeLine; decide), fun u1 hu1 => ⟨(by show 1 ≤ sizeLine; decide), fun u2 hu2 => ?_⟩⟩
      have x8 : Exd G6 (upd (upd G6 u1 (.tup [.int 0, .int 400])) u2 (.lst [.ref u1])) := ((Exd.refl _).new hu1).new hu2
      have r8 := one hu1 hu2
      generalize upd (upd G6 u1 (.tup [.int 0, .int 400])) u2 (.lst [.ref u1]) = G8 at x8 r8 ⊢
      refine ⟨rowDat [(0, 400)], rowDat [(0, 400)], (x8.row r2).dp, r8.dp, rowDat_shaped _, rowDat_shaped _, _, rfl, ?_⟩
      rw [rowDat_eqv, decide_eq_true rfl]
      refine iteF ?_
      have m8 := m7.trans (x8.nw m7.tab)
      have eo8 := x8 _ _ eo6
      -- the single numbers
      refine ⟨_, rfl, po, rfl, ⟨_, SqL.of eo8⟩, fun D2 hD2 => ?_⟩
      have D20 := hD2
      refine lc_list (K := K) (a := po) (xs := nums oddN) (fun j H' => Nw tb G8 H' ∧ RowAt H' D2 ((List.range j).map fun i => (1 + 2 * i, 2 + 2 * i))) ⟨(Nw.refl m8.tab).new hD2, [], upd_same, .nil⟩ (fun j H' _ q => SqL.of (q.1.lst eo8)) ?_ ?_
      · rintro j x H' hx ⟨n5, as, eD, pr⟩
        have hj : j < 200 := (List.getElem?_eq_some_iff.mp hx).1
        obtain rfl : V.int ((1 + 2 * j : Nat) : Int) = x := by
          have : (nums oddN)[j]? = some (V.int ((1 + 2 * j : Nat) : Int)) := by
            unfold nums oddN
            rw [List.getElem?_map, List.getElem?_map, List.getElem?_range hj]
            rfl
          rw [this] at hx
          exact Option.some.inj hx
        refine ⟨rfl, _, rfl, _, rfl, _, _, rfl, rfl, (by show 2 ≤ sizeLine; decide), fun t ht => ?_⟩
        refine ⟨_, (by rw [upd_ne (ne_of_none eD ht)]; exact eD), big pr (by omega), (n5.new ht).put D20 (o := .lst (as.map V.ref)) (by rw [upd_ne (ne_of_none eD ht)]; exact eD) (fun q z => by cases z), ?_⟩
        exact two (fun i => (1 + 2 * i, 2 + 2 * i)) _ _ D2 as j H' eD pr (by push_cast; omega) (by push_cast; omega) t ht
      rintro G9 ⟨n9, rD2⟩
      have rD2 : RowAt G9 D2 odds := rD2
      have m9 := m8.trans n9
      have eo9 := n9.lst eo8
      refine ⟨_, rfl, _, rfl, 398, -1, -2, 200, rfl, ⟨by decide, by decide, by decide +kernel, by decide +kernel⟩, fun D3 hD3 => ?_⟩
      have D30 := hD3
      refine lc_step (fun j H' => Nw tb G9 H' ∧ RowAt H' D3 ((List.range j).map fun i => (398 - 2 * i, 399 - 2 * i))) ⟨(Nw.refl m9.tab).new hD3, [], upd_same, .nil⟩ ?_ ?_
      · rintro j H3 hj ⟨n3, as, eD, pr⟩
        refine ⟨rfl, _, rfl, _, rfl, _, _, rfl, rfl, (by show 2 ≤ sizeLine; decide), fun t ht => ?_⟩
        refine ⟨_, (by rw [upd_ne (ne_of_none eD ht)]; exact eD), big pr (by omega), (n3.new ht).put D30 (o := .lst (as.map V.ref)) (by rw [upd_ne (ne_of_none eD ht)]; exact eD) (fun q z => by cases z), ?_⟩
        exact two (fun i => (398 - 2 * i, 399 - 2 * i)) _ _ D3 as j H3 eD pr (by simp only; omega) (by simp only; omega) t ht
      rintro G10 ⟨n10, rD3⟩
      have rD3 : RowAt G10 D3 evens := rD3
      have m10 := m9.trans n10
      have eo10 := n10.lst eo9
      obtain ⟨qs1, eq1, pr1⟩ := rD2.nw n10
      obtain ⟨qs2, eq2, pr2⟩ := id rD3
      have lq : (qs1 ++ qs2).length = 400 := by
        rw [(pr1.app pr2).len]
        exact singles_ok.1
      refine ⟨D2, D3, _, _, rfl, rfl, eq1, eq2, ?_, fun ls hls => ?_⟩
      · rw [← List.length_append, ← List.map_append, List.length_map, lq]
        have := PySem.sizeLine_eq
        omega
      have m11 := m10.new hls (u := .lst (qs1.map V.ref ++ qs2.map V.ref))
      have x11 : Exd G10 (upd G10 ls (.lst (qs1.map V.ref ++ qs2.map V.ref))) := (Exd.refl _).new hls
      have rls : RowAt (upd G10 ls (.lst (qs1.map V.ref ++ qs2.map V.ref))) ls (odds ++ evens) :=
        ⟨qs1 ++ qs2, by rw [List.map_append]; exact upd_same, (pr1.app pr2).put fun q xs e => x11 _ _ e⟩
      have els : (upd G10 ls (.lst (qs1.map V.ref ++ qs2.map V.ref))) ls = some (.lst ((qs1 ++ qs2).map V.ref)) := by rw [List.map_append]; exact upd_same
      generalize upd G10 ls (.lst (qs1.map V.ref ++ qs2.map V.ref)) = G11 at m11 x11 rls els ⊢
      have eo11 := x11 _ _ eo10
      refine ⟨_, rfl, ls, _, rfl, .inl (SqL.of els), rfl, _, rfl, ?_⟩
      rw [List.length_map, lq]
      refine ifEq rfl ?_
      refine ⟨_, rfl, ls, _, rfl, rls.sq, singles_valid, m11.tab, fun t3 p3 G12 T3 h3 n12 f3 r3 => ?_⟩
      obtain rfl : t3 = [(0, 400)] := same_row T3 all_tidy fun n hn => by rw [h3, singles_ok.2 n hn]
      have m12 := m11.trans n12
      refine ⟨(by show 2 ≤ sizeLine; decide), fun u1 hu1 => ⟨(by show 1 ≤ sizeLine; decide), fun u2 hu2 => ?_⟩⟩
      have x13 : Exd G12 (upd (upd G12 u1 (.tup [.int 0, .int 400])) u2 (.lst [.ref u1])) := ((Exd.refl _).new hu1).new hu2
      have r13 := one hu1 hu2
      generalize upd (upd G12 u1 (.tup [.int 0, .int 400])) u2 (.lst [.ref u1]) = G13 at x13 r13 ⊢
      refine ⟨rowDat [(0, 400)], rowDat [(0, 400)], (x13.row r3).dp, r13.dp, rowDat_shaped _, rowDat_shaped _, _, rfl, ?_⟩
      rw [rowDat_eqv, decide_eq_true rfl]
      refine iteF ?_
      have m13 := m12.trans (x13.nw m12.tab)
      have eo13 := x13 _ _ (n12.lst eo11)
      -- turned about
      refine ⟨_, rfl, po, _, rfl, SqL.of eo13, fun pv hpv => ?_⟩
      have erev : (nums oddN).reverse = nums oddN.reverse := List.map_reverse.symm
      rw [erev]
      have m14 := m13.new hpv (u := .lst (nums oddN.reverse))
      have x14 : Exd G13 (upd G13 pv (.lst (nums oddN.reverse))) := (Exd.refl _).new hpv
      refine ⟨pv, _, rfl, .inl upd_same, fun n hn => odd_lt n (List.mem_reverse.mp hn), m14.tab, fun t4 p4 G14 T4 h4 n14 f4 r4 => ?_⟩
      obtain rfl : t4 = odds := same_row T4 odds_tidy fun n hn => by
        rw [h4, odd_has n hn, decide_eq_decide, List.mem_reverse]
      have m15 := m14.trans n14
      have eo14 := n14.lst (x14 _ _ eo13)
      refine ⟨_, rfl, po, _, rfl, .inl eo14, odd_lt, m15.tab, fun t5 p5 G15 T5 h5 n15 f5 r5 => ?_⟩
      obtain rfl : t5 = odds := same_row T5 odds_tidy fun n hn => by rw [h5, odd_has n hn]
      refine ⟨rowDat odds, rowDat odds, (r4.nw n15).dp, r5.dp, rowDat_shaped _, rowDat_shaped _, _, rfl, ?_⟩
      rw [rowDat_eqv, decide_eq_true rfl]
      refine iteF ?_
      have m16 := m15.trans n15
      -- of nothing
      have nil : ∀ {t : List Pr}, Tidy t → (∀ n, has t n = false) → t = [] := fun {t} tt ht => tidy_eq tt trivial fun n => by rw [ht]; rfl
      refine ⟨(by show 0 ≤ sizeLine; decide), fun g1 hg1 => ?_⟩
      have m17 := m16.new hg1 (u := .lst [])
      have s1 : RowSq (upd G15 g1 (.lst [])) g1 [] := ⟨[], .inl upd_same, .nil⟩
      refine ⟨g1, [], rfl, s1, (fun z hz => nomatch hz), m17.tab, fun t6 p6 G16 T6 h6 n16 f6 r6 => ?_⟩
      obtain rfl : t6 = [] := nil T6 h6
      refine ⟨(by show 0 ≤ sizeLine; decide), fun g2 hg2 => ?_⟩
      have m18 := (m17.trans n16).new hg2 (u := .lst [])
      have x18 : Exd G16 (upd G16 g2 (.lst [])) := (Exd.refl _).new hg2
      have r18 : RowAt (upd G16 g2 (.lst [])) g2 [] := ⟨[], upd_same, .nil⟩
      refine ⟨rowDat [], rowDat [], (x18.row r6).dp, r18.dp, rowDat_shaped _, rowDat_shaped _, ?_⟩
      rw [rowDat_eqv, decide_eq_true rfl]
      refine ⟨_, rfl, iteT ?_⟩
      refine ⟨(by show 0 ≤ sizeLine; decide), fun g3 hg3 => ?_⟩
      have m19 := m18.new hg3 (u := .tup [])
      refine ⟨g3, [], rfl, .inr upd_same, (fun z hz => nomatch hz), m19.tab, fun t7 p7 G17 T7 h7 n17 f7 r7 => ?_⟩
      obtain rfl : t7 = [] := nil T7 h7
      refine ⟨(by show 0 ≤ sizeLine; decide), fun g4 hg4 => ?_⟩
      have x20 : Exd G17 (upd G17 g4 (.lst [])) := (Exd.refl _).new hg4
      have r20 : RowAt (upd G17 g4 (.lst [])) g4 [] := ⟨[], upd_same, .nil⟩
      refine ⟨rowDat [], rowDat [], (x20.row r7).dp, r20.dp, rowDat_shaped _, rowDat_shaped _, ?_⟩
      rw [rowDat_eqv, decide_eq_true rfl]
      exact k _
end
end LL
namespace LL
open PySem PySem.Spec PyProof.Rows L2
theorem finish {l : PySem.W.OpenLaw} {w : World} {K : PySem.W.Frag} {h : Heap} {mg : Str → Option Value} {fa c tb : Addr} (hfa : mg "law" = some (.ref fa)) (D : Defs K mg) (T : Tx K mg)
    (hc : D.is_runs.fd.code = .ref c) (bind : ∀ (s : Shared) (u : Value), BindsTo s D.law.fd ⟨[u], []⟩ [("_law_script", u)])
    (e1 : h.get? tb = some { cls := .none, data := .fields #[] }) (e2 : K.lookup tb = none) (e3 : PySem.W.CodeHd h c tb) : LawG l w K 12 63 "_law_script" mg fa h := by
  have ef : D.law.f = fa := by
    have := D.law.m.symm.trans hfa
    injection this with this
    injection this
  refine ⟨D.law.fd, [(c, tb)], spLaw K tb, ?_, ?_, ?_, bind, ?_, ?_⟩
  · intro p hp
    rw [List.mem_singleton.mp hp]
    exact e1
  · intro p hp
    rw [List.mem_singleton.mp hp]
    exact e2
  · intro p hp
    rw [List.mem_singleton.mp hp]
    exact e3
  · intro H a ns hl ht hs
    exact ⟨a, ns, rfl, hs, hl, ⟨#[], ht (c, tb) List.mem_cons_self, trivial⟩, fun _ => rfl⟩
  · intro base _ _ TB
    have t := TB (c, tb) List.mem_cons_self
    have ok := ok_law (P := l.prog) (w := w) (base := base) D T hc t
    rw [ef] at ok
    exact ok
end LL
open PySem PySem.W PyProof.Rows in
set_option maxRecDepth 100000 in
set_option maxHeartbeats 0 in
theorem PySem.Challenge.cw_leastlore_k14_tidy_rows_made_holds : PySem.Challenge.rw_leastlore_k14_tidy_rows_made.Holds := by
  w_on; o_law; k_head; (case hw => w_witness2)
  k_fill
  refine LL.walk_G (l := PySem.Challenge.rw_leastlore_k14_tidy_rows_made) (arg := "_law_script") (lvl := 12) (most := 63) rfl (by decide) rfl ⟨rfl, by decide, by decide⟩ (fun w h Y => PySem.W.kIn_of Y) ?F
  case F =>
    intro w mg fa h Y KX G hmg own
    refine' LL.finish hmg ⟨(LL.dn_mk (x := "mask_between") (st := LL.scmaskbetween_st) (ps := ["begin", "end"]) KX G ?ad_mask_between ?ld_mask_between ?cd_mask_between ?kd_mask_between (fun _ _ _ _ _ _ us hl => match us, hl with | [_, _], _ => rfl)), (LL.dn_mk (x := "mask_of") (st := LL.scmaskof_st) (ps := ["runs"]) KX G ?ad_mask_of ?ld_mask_of ?cd_mask_of ?kd_mask_of (fun _ _ _ _ _ _ us hl => match us, hl with | [_], _ => rfl)), (LL.dn_mk (x := "first_in") (st := LL.scfirstin_st) (ps := ["mask"]) KX G ?ad_first_in ?ld_first_in ?cd_first_in ?kd_first_in (fun _ _ _ _ _ _ us hl => match us, hl with | [_], _ => rfl)), (LL.dn_mk (x := "runs_in") (st := LL.scrunsin_st) (ps := ["mask"]) KX G ?ad_runs_in ?ld_runs_in ?cd_runs_in ?kd_runs_in (fun _ _ _ _ _ _ us hl => match us, hl with | [_], _ => rfl)), (LL.dn_mk (x := "is_whole") (st := LL.sciswhole_st) (ps := ["thing"]) KX G ?ad_is_whole ?ld_is_whole ?cd_is_whole ?kd_is_whole (fun _ _ _ _ _ _ us hl => match us, hl with | [_], _ => rfl)), (LL.dn_mk (x := "is_within") (st := LL.sciswithin_st) (ps := ["thing", "low", "high"]) KX G ?ad_is_within ?ld_is_within ?cd_is_within ?kd_is_within (fun _ _ _ _ _ _ us hl => match us, hl with | [_, _, _], _ => rfl)), (LL.dn_mk (x := "is_span") (st := LL.scisspan_st) (ps := ["begin", "end", "most"]) KX G ?ad_is_span ?ld_is_span ?cd_is_span ?kd_is_span (fun _ _ _ _ _ _ us hl => match us, hl with | [_, _, _], _ => rfl)), (LL.dn_mk (x := "is_stretch") (st := LL.scisstretch_st) (ps := ["thing"]) KX G ?ad_is_stretch ?ld_is_stretch ?cd_is_stretch ?kd_is_stretch (fun _ _ _ _ _ _ us hl => match us, hl with | [_], _ => rfl)), (LL.dn_mk (x := "is_runs") (st := LL.scisruns_st) (ps := ["thing"]) KX G ?ad_is_runs ?ld_is_runs ?cd_is_runs ?kd_is_runs (fun _ _ _ _ _ _ us hl => match us, hl with | [_], _ => rfl)), (LL.dn_mk (x := "runs_of") (st := LL.scrunsof_st) (ps := ["stretches"]) KX G ?ad_runs_of ?ld_runs_of ?cd_runs_of ?kd_runs_of (fun _ _ _ _ _ _ us hl => match us, hl with | [_], _ => rfl)), (LL.dn_mk (x := "runs_by") (st := LL.scrunsby_st) (ps := ["numbers"]) KX G ?ad_runs_by ?ld_runs_by ?cd_runs_by ?kd_runs_by (fun _ _ _ _ _ _ us hl => match us, hl with | [_], _ => rfl)), (LL.dn_mk (x := "how_many") (st := LL.schowmany_st) (ps := ["runs"]) KX G ?ad_how_many ?ld_how_many ?cd_how_many ?kd_how_many (fun _ _ _ _ _ _ us hl => match us, hl with | [_], _ => rfl)), (LL.dn_mk (x := "numbers_in") (st := LL.scnumbersin_st) (ps := ["runs"]) KX G ?ad_numbers_in ?ld_numbers_in ?cd_numbers_in ?kd_numbers_in (fun _ _ _ _ _ _ us hl => match us, hl with | [_], _ => rfl)), (LL.dn_mk (x := "has_number") (st := LL.schasnumber_st) (ps := ["runs", "thing"]) KX G ?ad_has_number ?ld_has_number ?cd_has_number ?kd_has_number (fun _ _ _ _ _ _ us hl => match us, hl with | [_, _], _ => rfl)), (LL.dn_mk (x := "_law_cell_at") (st := LL.scLcellat_st) (ps := ["_law_script", "_law_k"]) KX G ?ad_law_cell_at ?ld_law_cell_at ?cd_law_cell_at ?kd_law_cell_at (fun _ _ _ _ _ _ us hl => match us, hl with | [_, _], _ => rfl)), (LL.dn_mk (x := "_law_box") (st := LL.scLbox_st) (ps := ["_law_cell"]) KX G ?ad_law_box ?ld_law_box ?cd_law_box ?kd_law_box (fun _ _ _ _ _ _ us hl => match us, hl with | [_], _ => rfl)), (LL.dn_mk (x := "_law_take") (st := LL.scLtake_st) (ps := ["_law_box_here", "_law_many"]) KX G ?ad_law_take ?ld_law_take ?cd_law_take ?kd_law_take (fun _ _ _ _ _ _ us hl => match us, hl with | [_, _], _ => rfl)), (LL.dn_mk (x := "_law_stretches") (st := LL.scLstretches_st) (ps := ["_law_box_here", "_law_most"]) KX G ?ad_law_stretches ?ld_law_stretches ?cd_law_stretches ?kd_law_stretches (fun _ _ _ _ _ _ us hl => match us, hl with | [_, _], _ => rfl)), (LL.dn_mk (x := "_law_rising") (st := LL.scLrising_st) (ps := ["_law_marks_here"]) KX G ?ad_law_rising ?ld_law_rising ?cd_law_rising ?kd_law_rising (fun _ _ _ _ _ _ us hl => match us, hl with | [_], _ => rfl)), (LL.dn_mk (x := "_law_marks") (st := LL.scLmarks_st) (ps := ["_law_stretches_here"]) KX G ?ad_law_marks ?ld_law_marks ?cd_law_marks ?kd_law_marks (fun _ _ _ _ _ _ us hl => match us, hl with | [_], _ => rfl)), (LL.dn_mk (x := "_law_mixed") (st := LL.scLmixed_st) (ps := ["_law_box_here", "_law_some"]) KX G ?ad_law_mixed ?ld_law_mixed ?cd_law_mixed ?kd_law_mixed (fun _ _ _ _ _ _ us hl => match us, hl with | [_, _], _ => rfl)), (LL.dn_mk (x := "_law_right") (st := LL.scLright_st) (ps := ["_law_box_here", "_law_found", "_law_due", "_law_numbers"]) KX G ?ad_law_right ?ld_law_right ?cd_law_right ?kd_law_right (fun _ _ _ _ _ _ us hl => match us, hl with | [_, _, _, _], _ => rfl)), (LL.dn_mk (x := "law") (st := LL.sclaw_st) (ps := ["_law_script"]) KX G ?ad_law ?ld_law ?cd_law ?kd_law (fun _ _ _ _ _ _ us hl => match us, hl with | [_], _ => rfl))⟩ (LL.tx_mk (PySem.W.mg_none_of KX G ?z_len) (PySem.W.mg_none_of KX G ?z_range) (PySem.W.mg_none_of KX G ?z_list) (PySem.W.mg_none_of KX G ?z_isinstance) (PySem.W.mg_none_of KX G ?z_int) (PySem.W.mg_none_of KX G ?z_tuple) (PySem.W.mg_none_of KX G ?z_bool) (PySem.W.mg_none_of KX G ?z_max) (PySem.W.mg_none_of KX G ?z_all) (PySem.W.mg_none_of KX G ?z_repr) (PySem.W.mg_none_of KX G ?z_min) (PySem.W.mg_none_of KX G ?z_reversed) (PySem.W.mg_of KX G ?g_MOST_END)) ?zc0 (fun s u => .of_eq rfl) ?zt0_1 ?zt0_2 ?zt0_3
    (case ad_law => k_is)
    (case ld_law => k_is)
    (case cd_law => k_is)
    (case kd_law => k_is)
    (case ad_law_right => k_is)
    (case ld_law_right => k_is)
    (case cd_law_right => k_is)
    (case kd_law_right => k_is)
    (case ad_law_mixed => k_is)
    (case ld_law_mixed => k_is)
    (case cd_law_mixed => k_is)
    (case kd_law_mixed => k_is)
    (case ad_law_marks => k_is)
    (case ld_law_marks => k_is)
    (case cd_law_marks => k_is)
    (case kd_law_marks => k_is)
    (case ad_law_rising => k_is)
    (case ld_law_rising => k_is)
    (case cd_law_rising => k_is)
    (case kd_law_rising => k_is)
    (case ad_law_stretches => k_is)
    (case ld_law_stretches => k_is)
    (case cd_law_stretches => k_is)
    (case kd_law_stretches => k_is)
    (case ad_law_take => k_is)
    (case ld_law_take => k_is)
    (case cd_law_take => k_is)
    (case kd_law_take => k_is)
    (case ad_law_box => k_is)
    (case ld_law_box => k_is)
    (case cd_law_box => k_is)
    (case kd_law_box => k_is)
    (case ad_law_cell_at => k_is)
    (case ld_law_cell_at => k_is)
    (case cd_law_cell_at => k_is)
    (case kd_law_cell_at => k_is)
    (case ad_has_number => k_is)
    (case ld_has_number => k_is)
    (case cd_has_number => k_is)
    (case kd_has_number => k_is)
    (case ad_numbers_in => k_is)
    (case ld_numbers_in => k_is)
    (case cd_numbers_in => k_is)
    (case kd_numbers_in => k_is)
    (case ad_how_many => k_is)
    (case ld_how_many => k_is)
    (case cd_how_many => k_is)
    (case kd_how_many => k_is)
    (case ad_runs_by => k_is)
    (case ld_runs_by => k_is)
    (case cd_runs_by => k_is)
    (case kd_runs_by => k_is)
    (case ad_runs_of => k_is)
    (case ld_runs_of => k_is)
    (case cd_runs_of => k_is)
    (case kd_runs_of => k_is)
    (case ad_is_runs => k_is)
    (case ld_is_runs => k_is)
    (case cd_is_runs => k_is)
    (case kd_is_runs => k_is)
    (case ad_is_stretch => k_is)
    (case ld_is_stretch => k_is)
    (case cd_is_stretch => k_is)
    (case kd_is_stretch => k_is)
    (case ad_is_span => k_is)
    (case ld_is_span => k_is)
    (case cd_is_span => k_is)
    (case kd_is_span => k_is)
    (case ad_is_within => k_is)
    (case ld_is_within => k_is)
    (case cd_is_within => k_is)
    (case kd_is_within => k_is)
    (case ad_is_whole => k_is)
    (case ld_is_whole => k_is)
    (case cd_is_whole => k_is)
    (case kd_is_whole => k_is)
    (case ad_runs_in => k_is)
    (case ld_runs_in => k_is)
    (case cd_runs_in => k_is)
    (case kd_runs_in => k_is)
    (case ad_first_in => k_is)
    (case ld_first_in => k_is)
    (case cd_first_in => k_is)
    (case kd_first_in => k_is)
    (case ad_mask_of => k_is)
    (case ld_mask_of => k_is)
    (case cd_mask_of => k_is)
    (case kd_mask_of => k_is)
    (case ad_mask_between => k_is)
    (case ld_mask_between => k_is)
    (case cd_mask_between => k_is)
    (case kd_mask_between => k_is)
    (case z_len => k_is)
    (case z_range => k_is)
    (case z_list => k_is)
    (case z_isinstance => k_is)
    (case z_int => k_is)
    (case z_tuple => k_is)
    (case z_bool => k_is)
    (case z_max => k_is)
    (case z_all => k_is)
    (case z_repr => k_is)
    (case z_min => k_is)
    (case z_reversed => k_is)
    (case g_MOST_END => k_is)
    (case zc0 => rfl)
    (case zt0_1 => (refine' LL.own_mk (fun f hf => own "is_runs" f (by decide +kernel) hf) (PySem.W.mg_of KX G ?mm) ?y0 ?y1 ?y2 ?y3 ?y4; (case mm => k_is); (case y0 => k_is); (case y1 => rfl); (case y2 => rfl); (case y3 => k_is); (case y4 => rfl)))
    (case zt0_2 => first | rfl | kernel_rfl)
    (case zt0_3 => (refine' LL.code_mk KX ?lk ?x2 ?x3 ?x4 ?x5 ?x6 ?x7 ?x8; (case lk => k_is); (case x2 => rfl); (case x3 => rfl); (case x4 => rfl); (case x5 => rfl); (case x6 => rfl); (case x7 => rfl); (case x8 => decide)))
