import PyProof.Rows.All
import Wide.All
import OpenK.AllK
import Wide.FinOn
import HandS.ForMost
import HandS.AnyAll
import HandS.EndTab
import HandS.EndOwn
import PyProof.ReprRoads
import HandS.GenOver
import HandS.WideBits
import HandS.IsInst
import HandS.Style
import HandS.Wide
import HandS.Flow
import HandS.NoneIn
import HandS.Conv
import HandS.RevTup
import HandS.Rev
import KE.KRevSl
import HandS.ForExc
import HandS.TryMany
import HandS.ExcInit
import HandS.ExcField
import PySem.Challenge.RW_leastlore_k16_rows_refused
import HandS.Strs
import HandS.DictComp
import KE.GoesMore
import HandS.More
import HandS.RevRange
import HandS.Text
import PyProof.NeKinds
import HandS.ExcIs
set_option Elab.async false
set_option linter.all false
set_option maxRecDepth 100000
set_option maxHeartbeats 4000000
namespace LL
open PySem PySem.Spec PyProof.Rows L2
/-! ### defs that are called where no repr runs -/
/-- as FnOk, but only where it is known that no repr is under way -/
structure FnG (P : Program) (w : World) (K : PySem.W.Frag) (mg : Str → Option Value) (base : Heap) (k : Nat) (f : Addr) (fd : FuncData) (ps : List Str) (sp : Sp) : Prop where
  len : ∀ vs H Q E, sp vs H Q E → vs.length = ps.length
  run : ∀ (A : Around) (outer : List Env) (s : Shared) (H : Hp) (args : Args) (us : List Value) (vs : List V) (Q : VK) (E : XK),
    A.guards = some [] → Room k A → Env0 P w K mg base A outer s H → BindsTo s fd args (ps.zip us) → Vals vs us → sp vs H Q E →
    codeAny (model P w) A (.call (.ref f) args) (CR CX0 outer P w H s Q E) s
section
variable {P : Program} {w : World} {K : PySem.W.Frag} {mg : Str → Option Value} {base : Heap}
theorem fnG_of {x : Str} {st : Stmt} {f : Addr} {fd : FuncData} {N ps : List Str} {k : Nat} {sp : Sp} (F : Fun K x x st f fd) (S : FnScope N ps (defScope st))
    (len : ∀ vs H Q E, sp vs H Q E → vs.length = ps.length)
    (body : ∀ (cdv : Value) (A : Around) (outer : List Env) (s : Shared) (H : Hp) (vs : List V) (Q : VK) (E : XK), A.guards = some [] →
      Room k (A.deeper (envOfC x (defScope st) s.heap.objs.size f cdv)) → sp vs H Q E →
      ∃ t, PSs (cxOf CX0 P w K mg base N x (defScope st) f cdv A outer s H E).nox (defBody st) t ∧ t { nx := fun _ H' => Q .non H', rt := Q } (start N vs) H) :
    FnG P w K mg base (k + 1) f fd ps sp := by
  refine ⟨len, fun A outer s H args us vs Q E guard room e0 bind rel want => ?_⟩
  obtain ⟨c1, d1, kv, doc, pm, an, cdv, c2, sl, rfl, look, isCode⟩ := F.ex
  have long := len _ _ _ _ want
  have inK : K.In s.heap := e0.mod.kin.keeps fun b o e => (e0.bs b o e).1
  have free : s.heap.NoLimit := e0.mod.nolimit.keeps fun b o e => (e0.bs b o e).1
  have pars : ∀ y ∈ ps.zip us, (defScope st).names.lookup y.1 = some .local ∨
      ((defScope st).names.lookup y.1 = some .cell ∧ ((cellsFrom (s.heap.objs.size + 1) (defScope st).names []).lookup y.1).isSome = true) := by
    rintro ⟨n, v⟩ hy
    rcases S.par n (List.of_mem_zip hy).1 with q | q
    · exact Or.inl q
    · exact Or.inr ⟨q, PySem.W.cellsFrom_some _ _ _ (Or.inl q)⟩
  refine codeAny_call_function room.depth (inK _ _ look) rfl S.co S.gen rfl (PySem.W.codeRec_of inK isCode) (bind _ _ _ _ ?_)
  refine wpAny_newFunctionEnv_cells S.kind pars fun env isEnv s1 made => ?_
  subst isEnv
  refine ⟨free.keeps made.toInCall.keep, codeAny_func ?_⟩
  obtain ⟨t, ht, hq⟩ := body cdv A outer s H vs Q E guard (room.deeper _) want
  have I := inv_start (CX := CX0) (E := E) S room.hd e0 long rel made
  have ht2 := ht.nox
  refine wpAny_mono (ht2.run [] s1 (start N vs) H _ I hq) (fun fl s' end_ => ?_) fun e s' z => z
  cases fl with
  | ret u =>
    obtain ⟨v, σ', H', J, rv, q⟩ := end_
    exact ⟨v, H', J.os, J.bare, J.base, J.hok, rv, q⟩
  | next =>
    obtain ⟨σ', H', J, q⟩ := end_
    exact ⟨.non, H', J.os, J.bare, J.base, J.hok, rfl, q⟩
  | brk =>
    obtain ⟨_, _, _, q⟩ := end_
    exact False.elim q
  | cont =>
    obtain ⟨_, _, _, q⟩ := end_
    exact False.elim q
end
/-- f(e, ..) for such a def -/
theorem pe_callG {X : Cx} {k : Nat} {f : Addr} {fd : FuncData} {ps : List Str} {sp : Sp} {x : Str} {p pos : Pos} {e : Expr} {es : List Expr} {t : TA}
    (F : FnG X.prog X.w X.K X.mg X.base k f fd ps sp) (guard : X.A.guards = some []) (room : Room k X.A) (hg : Gl X x) (hm : X.mg x = some (.ref f))
    (kp : PySem.W.keepIn X.K (.ref f) = true) (hb : Binds X.K fd ps []) (ha : PA X (e :: es) t) (hd : (x == ("__debug__" : Str)) = false := by decide)
    (he : starEach (e :: es) X.env = (false, eval e X.env) :: starEach es X.env := by rfl) (hp : (backTo pos (starEach es X.env)).any (·.1) = false := by rfl) :
    PE X (.Call (.Name x p) (e :: es) [] pos) (tCall sp [] E0 t) := by
  refine ⟨fun pins s σ H Q I h => wpAny_Call_Name_kw (ld_glob I hg hm ?_ hd)⟩
  refine PySem.W.callWith_K (h₀ := X.base) I.ok.mod.kin kp (thn (ha.run pos pins s σ H _ I h) fun us s1 ⟨vs, H1, J, rel, want⟩ => ⟨J.kIn, ?_⟩) he hp
  have want : sp (vs ++ []) H1 Q E0 := want
  rw [List.append_nil] at want
  have long : (us ++ []).length = ps.length := by
    rw [List.append_nil, ← rel.length]
    exact F.len _ _ _ _ want
  have bind := hb s1 us J.kIn long
  rw [List.append_nil] at bind
  refine wpAny_call (codeAny_mono (F.run X.A X.stack s1 H1 ⟨us, []⟩ us vs Q E0 guard room J.env0 bind rel want) fun r s' got => ?_)
  cases r with
  | error _ => exact False.elim got
  | ok fl =>
    cases fl with
    | ret u => exact J.after got
    | next => exact False.elim got
    | brk => exact False.elim got
    | cont => exact False.elim got
/-- repr of data -/
theorem call_reprD {X : Cx} (guard : X.A.guards = some []) {k : Nat} (room : Room k X.A) : CallR X (.builtin "repr") (fun xs H Q => ∃ v d, xs = [v] ∧ Dp X.K H v d ∧ isDisplay d = true ∧
    d.showable = true ∧ d.hasDict = false ∧ d.depth ≤ 60 ∧ d.shown.length ≤ sizeLine ∧ Q (.str d.shown) H) := by
  intro pins s σ H xs us Q I r ⟨v, d, e, dp, disp, sh, nd, dep, len, q⟩
  subst e
  obtain ⟨u, rfl, r1⟩ := vals1 r
  obtain ⟨as, rd⟩ := Dp.reads I d v u dp r1
  obtain ⟨a, rfl⟩ := isRef_of_reads rd disp
  exact repr_of_reads' rd sh (PyData.noDict_hsm nd) guard (by have := room.un; omega) (fun _ _ e => e)
    (fun h' u tk keep => ⟨.str _, H, I.kept keep, ⟨_, rfl⟩, q⟩) len
end LL
namespace LL
open PySem PySem.Spec PyProof.Rows L2
/-- what is tracked at a law's entry: the tables, and the script where it is no written thing -/
def entryH (T : List Addr) (K : PySem.W.Frag) (a : Addr) (scr : Obj) (ns : List Int) : Hp := fun b =>
  if b ∈ T then some (.tbl #[]) else if b = a ∧ K.lookup a = none then some (.frz scr (.lst (ns.map V.int))) else none
theorem entry_tab {T : List Addr} {K : PySem.W.Frag} {a b : Addr} {scr : Obj} {ns : List Int} (h : b ∈ T) : entryH T K a scr ns b = some (.tbl #[]) := if_pos h
theorem entry_cases {T : List Addr} {K : PySem.W.Frag} {a b : Addr} {scr : Obj} {ns : List Int} {u : HO} (h : entryH T K a scr ns b = some u) :
    (b ∈ T ∧ u = .tbl #[]) ∨ (b ∉ T ∧ b = a ∧ K.lookup a = none ∧ u = .frz scr (.lst (ns.map V.int))) := by
  unfold entryH at h
  by_cases m : b ∈ T
  · rw [if_pos m] at h
    exact Or.inl ⟨m, (Option.some.inj h).symm⟩
  · rw [if_neg m] at h
    by_cases q : b = a ∧ K.lookup a = none
    · rw [if_pos q] at h
      exact Or.inr ⟨m, q.1, q.2, (Option.some.inj h).symm⟩
    · rw [if_neg q] at h
      cases h
abbrev noTable : Obj := { cls := .none, data := .fields #[] }
theorem law_callG {P : Program} {w : World} {K : PySem.W.Frag} {mg mb : Str → Option Value} {k : Nat} {fa a : Addr} {cs : List (Addr × Addr)} {fd : FuncData} {x : Str} {sp : Sp} {s : Shared} {vals : List Value} {ns : List Int}
    (inK : K.In s.heap) (glob : s.heap.Ns mainGlobals mg) (blt : s.heap.Ns builtinsNs mb) (boot : ∀ y : Str, y ≠ "__name__" → mb y = bootBuiltins y) (free : s.heap.NoLimit) (noGen : s.gens = #[])
    (tabs : ∀ p ∈ cs, s.heap.get? p.2 = some noTable) (outK : ∀ p ∈ cs, K.lookup p.2 = none) (codes : ∀ p ∈ cs, PySem.W.CodeHd s.heap p.1 p.2)
    (main : ∃ (bm : Addr) (ob : Obj), mg "__builtins__" = some (.ref bm) ∧ bm ≠ builtinsNs ∧ s.heap.get? bm = some ob ∧ ob.cls = .type "module" ∧ ob.dict = some builtinsNs ∧ ob.data = .plain)
    (scr : s.heap.get? a = some { cls := .type "list", data := .seq vals.toArray }) (are : IntsAre vals ns) (few : ns.length ≤ sizeLine) (room : Room k callerA)
    (F : ∀ base : Heap, K.In base → base.Ns mainGlobals mg → (∀ p ∈ cs, GxR.TabB base mg p.1 p.2) → FnG P w K mg base k fa fd [x] sp)
    (bind : ∀ (s : Shared) (u : Value), BindsTo s fd ⟨[u], []⟩ [(x, u)])
    (ask : ∀ H : Hp, (∀ p ∈ cs, H p.2 = some (.tbl #[])) → SqL K H a (ns.map V.int) → sp [.ref a] H (fun v _ => v = .bl true) fun _ _ _ => False) :
    codeAny (model P w) callerA (.call (.ref fa) ⟨[.ref a], []⟩) (fun r s' => r = .ok (.ret (.bool true)) ∧ OldK s.heap s'.heap ∧ s'.os = s.os ∧ AllBare s'.gens) s := by
  let T : List Addr := cs.map (·.2)
  have tabAt : ∀ b, b ∈ T → s.heap.get? b = some noTable := fun b hb => by
    obtain ⟨p, hp, rfl⟩ := List.mem_map.mp hb
    exact tabs p hp
  have mem : ∀ p ∈ cs, p.2 ∈ T := fun p hp => List.mem_map_of_mem hp
  let H : Hp := entryH T K a { cls := .type "list", data := .seq vals.toArray } ns
  have aT : a ∉ T := fun z => by
    have q := tabAt a z
    rw [scr] at q
    have z' := congrArg Obj.data (Option.some.inj q)
    cases z'
  have rel := vals_ints are
  have seqA : SqL K H a (ns.map V.int) := by
    cases lk : K.lookup a with
    | some o =>
      have e := inK a o lk
      rw [scr] at e
      cases e
      exact .inr ⟨_, vals.toArray, _, lk, rfl, rfl, rfl, by rw [List.size_toArray, are.length]; exact few, by simpa using rel⟩
    | none =>
      refine .inl (.inr ⟨{ cls := .type "list", data := .seq vals.toArray }, ?_⟩)
      show entryH T K a _ ns a = _
      unfold entryH
      rw [if_neg aT, if_pos ⟨rfl, lk⟩]
  have ok : HOk P w H s.heap := fun b u e => by
    rcases entry_cases e with ⟨m, rfl⟩ | ⟨_, rfl, _, rfl⟩
    · exact tabAt b m
    · exact ⟨scr, by rw [List.length_map]; exact few, vals, _, rel, scr⟩
  -- what is of another kind isn't tracked
  have clear : ∀ {b : Addr} {o : Obj}, s.heap.get? b = some o → (∀ vs n, o.data ≠ .seq vs n) → o.data ≠ .fields #[] → H b = none := fun {b o} e n1 n2 => by
    cases q : H b with
    | none => rfl
    | some u =>
      rcases entry_cases q with ⟨m, _⟩ | ⟨_, rfl, _, _⟩
      · rw [tabAt b m] at e
        cases e
        exact absurd rfl n2
      · rw [scr] at e
        cases e
        exact absurd rfl (n1 _ _)
  have keepNs : ∀ {b : Addr} {m : Str → Option Value}, s.heap.Ns b m → (hidT s.heap H).Ns b m := fun {b m} ⟨o, es, ep, e, d, r⟩ => by
    refine ⟨o, es, ep, hidT_get e (clear e (fun vs n z => ?_) fun z => ?_), d, r⟩
    · rw [d] at z
      cases z
    · rw [d] at z
      cases z
  have inB : K.In (hidT s.heap H) := fun b o e => hidT_get (inK b o e) (by
    cases q : H b with
    | none => rfl
    | some u =>
      rcases entry_cases q with ⟨m, _⟩ | ⟨_, rfl, l, _⟩
      · obtain ⟨p, hp, rfl⟩ := List.mem_map.mp m
        rw [outK p hp] at e
        cases e
      · rw [l] at e
        cases e)
  have tabB : ∀ p ∈ cs, GxR.TabB (hidT s.heap H) mg p.1 p.2 := fun p hp => by
    have tp := tabs p hp
    refine ⟨?_, ?_, fun z => ?_⟩
    · obtain ⟨o, us, file, tf, fl, tg, inF, tx, tt, g1, g2, g3, g4, g5⟩ := codes p hp
      refine ⟨o, us, file, tf, fl, tg, inF, tx, tt, hidT_get g1 (clear g1 (fun vs n z => ?_) fun z => ?_), g2, g3, g4, g5⟩
      · rw [g3] at z
        cases z
      · rw [g3] at z
        cases z
        simp at g4
    · obtain ⟨bm, ob, b1, b2, b3, b4, b5, b6⟩ := main
      have nG : bm ≠ mainGlobals := fun q => by
        obtain ⟨o, es, ep, e, d, _⟩ := glob
        rw [q, e] at b3
        cases b3
        rw [d] at b6
        cases b6
      have nP : bm ≠ p.2 := fun q => by
        rw [q, tp] at b3
        cases b3
        cases b6
      refine ⟨bm, ob, b1, b2, nG, nP, hidT_get b3 (clear b3 (fun vs n z => ?_) fun z => ?_), b4, b5, b6⟩
      · rw [b6] at z
        cases z
      · rw [b6] at z
        cases z
    · obtain ⟨o, es, ep, e, d, _⟩ := glob
      rw [z, tp] at e
      cases e
      cases d
  have modB : L2.Mod K mg (hidT s.heap H) := ⟨inB, keepNs glob, ⟨mb, keepNs blt, boot⟩, by
    obtain ⟨mc, l1, l2⟩ := free
    exact ⟨mc, keepNs l1, l2⟩⟩
  have e0 : Env0 P w K mg (hidT s.heap H) callerA [] s H :=
    ⟨rfl, modB, fun b o e => of_hidT e, Nat.le_of_eq (hidT_size _ _), trivial, (fun b hb => absurd (show b ∈ ([] : List Addr) from hb) (by simp)), ok, .of_eq noGen⟩
  have run := (F _ inB (keepNs glob) tabB).run callerA [] s H ⟨[.ref a], []⟩ [.ref a] [.ref a] _ _ rfl room e0 (bind s (.ref a)) (.cons rfl .nil)
    (ask H (fun p hp => entry_tab (mem p hp)) seqA)
  refine codeAny_mono run fun r s' got => ?_
  cases r with
  | error _ => exact False.elim got
  | ok fl =>
    cases fl with
    | next => exact False.elim got
    | brk => exact False.elim got
    | cont => exact False.elim got
    | ret u =>
      obtain ⟨v, H', os, bare, un, ok', rv, q⟩ := got
      have qv : v = .bl true := q
      subst qv
      obtain rfl : u = Value.bool true := rv
      have grown : ∀ b, b ∈ T → ∃ more : Array Value, s'.heap.get? b = some { cls := .none, data := .fields more } := fun b hb => by
        obtain ⟨more, z⟩ := un.tbls b #[] (entry_tab hb)
        exact ⟨_, ok' b _ z⟩
      have stays : ∀ b o, b ∉ T → s.heap.get? b = some o → s'.heap.get? b = some o := fun b o n e => by
        cases q : H b with
        | none => exact un.keep b o e q (fun z => absurd (show b ∈ ([] : List Addr) from z) (by simp)) (by simp)
        | some u =>
          rcases entry_cases q with ⟨m, _⟩ | ⟨_, rfl, _, rfl⟩
          · exact absurd m n
          · obtain ⟨e2, _⟩ := ok' b _ (un.frzs b _ _ q)
            rw [scr] at e
            cases e
            exact e2
      refine ⟨rfl, ⟨fun b o e => ?_, fun b o e => ?_⟩, os, bare⟩
      · by_cases m : b ∈ T
        · obtain ⟨more, z⟩ := grown b m
          obtain ⟨p, hp, rfl⟩ := List.mem_map.mp m
          rw [tabs p hp] at e
          cases e
          exact .inr (.inl ⟨((codes p hp).tab (tabs p hp)).isCodeTable, rfl, #[], more, rfl, by rw [Array.empty_append]; exact z⟩)
        · exact .inl (stays b o m e)
      · by_cases m : b ∈ T
        · obtain ⟨more, z⟩ := grown b m
          exact ⟨_, z⟩
        · exact ⟨o, stays b o m e⟩
/-- what is to be known of a law's promise at its entry -/
def LawG (l : PySem.W.OpenLaw) (w : World) (K : PySem.W.Frag) (k n : Nat) (x : Str) (mg : Str → Option Value) (fa : Addr) (h : Heap) : Prop :=
  ∃ (fd : FuncData) (cs : List (Addr × Addr)) (sp : Sp), (∀ p ∈ cs, h.get? p.2 = some noTable) ∧ (∀ p ∈ cs, K.lookup p.2 = none) ∧ (∀ p ∈ cs, PySem.W.CodeHd h p.1 p.2) ∧
    (∀ (s : Shared) (u : Value), BindsTo s fd ⟨[u], []⟩ [(x, u)]) ∧
    (∀ (H : Hp) (a : Addr) (ns : List Int), ns.length ≤ n → (∀ p ∈ cs, H p.2 = some (.tbl #[])) → SqL K H a (ns.map V.int) → sp [.ref a] H (fun v _ => v = .bl true) fun _ _ _ => False) ∧
    ∀ base : Heap, K.In base → base.Ns mainGlobals mg → (∀ p ∈ cs, GxR.TabB base mg p.1 p.2) → FnG l.prog w K mg base k fa fd [x] sp
theorem walk_G {l : PySem.W.OpenLaw} {most lvl : Nat} {view : Program} {loose : List Str} {XP : (Str → Option Value) → Heap → Prop} {YP : World → Heap → Prop}
    {d : DefRec} {K : Params → PySem.W.Frag} {arg : Str}
    (h1 : l.most = some most) (h2 : most ≤ sizeLine) (h3 : d.params.defaults = []) (room : Room lvl callerA) (kIn : ∀ (w : World) (h : Heap), YP w h → (K w.params).In h)
    (F : ∀ (w : World) (mg : Str → Option Value) (fa : Addr) (h : Heap), YP w h → (K w.params).In h → h.Ns mainGlobals mg → mg d.name = some (.ref fa) →
      (∀ nm f, ((recsOf view).any fun r => r.name == nm) = true → mg nm = some (.ref f) → LamX.OwnTab (K w.params) f h) → LawG l w (K w.params) lvl most arg mg fa h) :
    PySem.W.WalkO view loose XP YP l.row.toRowW d [] (fun f vs => PySem.call f vs) := by
  refine Att.attach_callB h1 h3 fun w sa sb mg mb fa oL pm cd doc a vals nums gr yp hob hdata hrec hfa hscr hint hlen hbit hgen => ?_
  have inK := kIn w _ yp
  have tabs : ∀ nm f, ((recsOf view).any fun r => r.name == nm) = true → mg nm = some (.ref f) → LamX.OwnTab (K w.params) f sb.heap := fun nm f there hf cc TT ob ff ev di vv ss g1 g2 g3 g4 g5 => by
    obtain ⟨r, mem, same⟩ := List.any_eq_true.mp there
    have nmr : r.name = nm := beq_iff_eq.mp same
    obtain ⟨fb, ob', ff', cc', TT', i1, i2, i3, i4, _, i6⟩ := gr.T.tab r mem
    rw [nmr, hf] at i1
    cases i1
    rw [inK _ _ g1] at i2
    cases i2
    rw [g2] at i3
    cases i3
    rw [g3] at i4
    cases i4
    obtain ⟨⟨oc, vc, j1, _, j3, j4⟩, empty⟩ := i6
    rw [inK _ _ g4] at j1
    cases j1
    cases j3
    rw [g5] at j4
    cases j4
    exact empty
  obtain ⟨fd, cs, sp, t1, t2, t3, bind, ask, good⟩ := F w mg fa _ yp inK gr.T.g hfa tabs
  exact law_callG inK gr.T.g gr.T.b gr.T.builtins gr.T.nolimit hgen t1 t2 t3 gr.T.bmain hscr hint (Nat.le_trans hlen h2) room good bind
    (fun H q1 q2 => ask H a nums hlen q1 q2)
end LL
namespace LL
open PySem PySem.Spec PyProof.Rows L2
/-! ### all(elt for x in xs), xs a list, where elt may call defs -/
/-- where the element runs: a frame of its own over the def's -/
def gx (X : Cx) (cenv : Env) (N : List Str) (s : Shared) (H : Hp) (it : Addr) (A : Around) : Cx where
  prog := X.prog
  w := X.w
  K := X.K
  mg := X.mg
  base := X.base
  A := A
  N := N
  s_0 := s
  H_0 := H
  env := cenv
  outer := X.stack
  stack := cenv :: X.stack
  ex := [it]
  fn := fun _ => false
  calm := true
  pn := []
  xe := fun _ _ => False
theorem over_gen {A : Around} {elt : Expr} {gs : List Comprehension} {sc : Scope} {pos : Pos} {it acc : Value} {cenv : Env} :
    A.over (.compLoop (.GeneratorExp elt gs sc pos) 0 it acc cenv) [] = A.deeper cenv := by
  first
    | rfl
    | (obtain ⟨hd, d, fr, gs, u⟩ := A
       simp [Around.over, Around.deeper, marksOver, frameCount, unitsOf, envsOf, guardsOf, pushEnvs, pushGuards, Code.envs, Code.env?, Code.isFrame, Code.guards, Code.isGuard, Code.weight, Code.frames, Code.isCreation, Code.isCaller, Code.cUnits])
/-- same heap, other generators' states -/
theorem inv_gens {X : Cx} {pins : List (Addr × Obj)} {σ : L2.St} {H : Hp} {s s' : Shared} (I : Inv X pins σ H s) (hh : s'.heap = s.heap) (ho : s'.os = s.os) (hb : AllBare s'.gens) : Inv X pins σ H s' := by
  obtain ⟨h', g', d', t', o'⟩ := s'
  have e1 : h' = s.heap := hh
  have e2 : o' = s.os := ho
  subst e1
  subst e2
  exact I.step (g' := g') (d' := d') (t' := t') (ch := []) (fun _ z => nomatch z) (fun b o _ _ _ e _ => e) (fun b o _ _ _ e _ => ⟨o.slots, e⟩) (fun _ _ _ _ n => n)
    (fun b o _ e => ⟨o, e⟩) (fun _ _ e => e) (fun _ _ _ e => e) (fun b ps e => ⟨#[], by rw [e]; simp⟩) (fun _ z => z) I.hok hb
theorem clo_back {cells : List (Str × Addr)} {names : List (Str × NameKind)} (h : ∀ y ∈ names, y.2 = .free → ∃ c, cells.lookup y.1 = some c) {y : Str} {c : Addr}
    (e : (cloFrom cells names []).lookup y = some c) : cells.lookup y = some c := by
  rcases cloFrom_mem (PySem.mem_of_lookup e) with m | ⟨m, rfl⟩
  · cases m
  · obtain ⟨c', e'⟩ := h _ m rfl
    rw [e']
    rfl
section
variable {X : Cx} {pins : List (Addr × Obj)} {σ : L2.St} {H : Hp} {s : Shared}
/-- the start: in the state s the iterator is made, the code is there; then the frame and the generator are laid -/
theorem gen_start {scope : Scope} {x : Str} {cs : List (Str × Nat)} {cv : Value} {ia tk : Nat} {A : Around} {h1 h2 : Heap} {g2 : Array GenState} {m0 : Str → Option Value}
    (I : Inv X pins σ H s) (S : GxR.GenS X.env scope x)
    (caps : ∀ p ∈ cs, X.N[p.2]? = some p.1 ∧ X.env.scope.names.lookup p.1 = some .cell ∧ scope.names.lookup p.1 = some .free ∧
      ∀ q, X.env.cells.lookup p.1 = some q → (cloFrom X.env.cells scope.names []).lookup p.1 = some q)
    (hd : A.handled = none) (fr : A.frames = some (genEnv scope (cloFrom X.env.cells scope.names []) s.heap.objs.size cv builtinsNs X.env :: X.stack))
    (i1 : ia < s.heap.objs.size) (i2 : ∀ y c, X.env.cells.lookup y = some c → c ≠ ia) (i3 : ∀ b o, X.base.get? b = some o → b ≠ ia) (i4 : ia ∉ frs X.stack)
    (ns : h1.Ns s.heap.objs.size m0) (sb : Heap.SameBut s.heap.objs.size (s.heap.push { cls := .type "frame", data := .dict #[] }) h1)
    (keep : ∀ b o, h1.get? b = some o → h2.get? b = some o) (bare : AllBare g2) :
    Inv (gx X (genEnv scope (cloFrom X.env.cells scope.names []) s.heap.objs.size cv builtinsNs X.env) (x :: cs.map (·.1)) s H ia A) [] (none :: cs.map (fun p => σ.getD p.2 none)) H
      { s with heap := h2, gens := g2, toks := tk } := by
  have kp : ∀ b o, s.heap.get? b = some o → h2.get? b = some o := fun b o e =>
    keep b o (sb.extBut b o (Nat.ne_of_lt (Heap.lt_size e)) (Heap.get?_push_of_some _ e))
  have lt : ∀ y c, X.env.cells.lookup y = some c → c < s.heap.objs.size := fun y c e => by
    obtain ⟨v, z⟩ := I.cell y c e
    exact z.lt
  have back : ∀ {y : Str} {c : Addr}, (cloFrom X.env.cells scope.names []).lookup y = some c → X.env.cells.lookup y = some c := fun e => clo_back S.free e
  have okG : (gx X (genEnv scope (cloFrom X.env.cells scope.names []) s.heap.objs.size cv builtinsNs X.env) (x :: cs.map (·.1)) s H ia A).Ok := by
    refine ⟨I.ok.mod, S.kind, I.ok.glob, rfl, Nat.le_refl _, fun y z c e1 e2 => I.ok.inj y z c (back e1) (back e2), fun y hy => ?_, (fun y c z _ => absurd z (by simp [gx])), fun _ => hd, fr, .inr ⟨rfl, rfl⟩, fun b hb => ?_,
      I.bs, Nat.le_trans I.ok.bsz I.sz, fun b o e hb => ?_, fun b hb z => ?_, I.stack, I.stkFree⟩
    · have hk : scope.names.lookup y = some .free := by
        rcases hy with q | q
        · exact absurd rfl (S.cell _ (PySem.mem_of_lookup (show scope.names.lookup y = some .cell from q)))
        · exact q
      have hm : (y, NameKind.free) ∈ scope.names := PySem.mem_of_lookup hk
      obtain ⟨c, hc⟩ := mem_lookup (cloFrom_has (cells := X.env.cells) (acc := []) hm)
      exact ⟨c, hc⟩
    · have e : b = ia := by simpa [gx] using hb
      subst e
      exact ⟨Nat.ne_of_lt i1, fun y c e => i2 y c (back e)⟩
    · have e' : b = ia := by simpa [gx] using hb
      exact i3 b o e e'
    · have e : b = ia := by simpa [gx] using hb
      subst e
      exact i4 z
  refine ⟨okG, rfl, bare, Un.kept kp, ⟨m0, ?_, fun i y v e1 e2 e3 => ?_⟩, fun y c e => ?_, I.hok.fresh (Nat.le_refl _), fun y c e => I.freeC y c (back e), (fun p hp => absurd (show p ∈ ([] : List (Addr × Obj)) from hp) (by simp)), I.hok.kept kp, by simp [gx]⟩
  · obtain ⟨o, es, ep, e, r⟩ := ns
    exact ⟨o, es, ep, keep _ _ e, r⟩
  · cases i with
    | zero =>
      have e2 : (some (none : Option V)) = some (some v) := e2
      cases e2
    | succ j =>
      have e1 : (cs.map (·.1))[j]? = some y := e1
      have e2 : (cs.map (fun p => σ.getD p.2 none))[j]? = some (some v) := e2
      rw [List.getElem?_map] at e1 e2
      cases hp : cs[j]? with
      | none => rw [hp] at e1; cases e1
      | some p =>
        rw [hp] at e1 e2
        obtain rfl : p.1 = y := Option.some.inj e1
        have e2 : σ.getD p.2 none = some v := Option.some.inj e2
        obtain ⟨c1, c2, c3, c4⟩ := caps p (List.mem_of_getElem? hp)
        have e4 : σ[p.2]? = some (some v) := by
          rw [List.getD_eq_getElem?_getD] at e2
          cases q : σ[p.2]? with
          | none => rw [q] at e2; cases e2
          | some z => rw [q] at e2; exact congrArg some e2
        obtain ⟨m, _, look⟩ := I.loc
        obtain ⟨u, ru, lu⟩ := look p.2 p.1 v c1 e4 (.inr (.inl c2))
        refine ⟨u, ru, ?_⟩
        rcases lu with ⟨k1, _⟩ | ⟨_, q, q1, oq, q2, q3⟩
        · have k2 : X.env.scope.names.lookup p.1 = some .local := k1
          rw [c2] at k2
          cases k2
        · exact .inr ⟨.inr c3, q, c4 q q1, oq, kp _ _ q2, q3⟩
  · obtain ⟨v, o, e1, e2⟩ := I.cell y c (back e)
    exact ⟨v, o, kp _ _ e1, e2⟩
end
/-- a list or a tuple -/
def SqA (tp : Bool) (K : PySem.W.Frag) (H : Hp) (a : Addr) (xs : List V) : Prop := if tp = true then SqT K H a xs else SqL K H a xs
def itN (tp : Bool) : String := if tp = true then "tuple_iterator" else "list_iterator"
def ItO (tp : Bool) (yl : Addr) (i : Nat) (o : Obj) : Prop := o.cls = .type (itN tp) ∧ o.data = .fields #[.ref yl, .int i 0]
/-- an iterator's turn -/
theorem next_turn {tp : Bool} {X : Cx} {pins : List (Addr × Obj)} {σ : L2.St} {H : Hp} {s : Shared} {yl ia : Addr} {xs : List V} {i : Nat} {o : Obj} {v : V} {A : Around} {Q : Option Value → Shared → Prop} {E : Value → Shared → Prop}
    (I : Inv X pins σ H s) (hd : A.handled = none) (sq : SqA tp X.K H yl xs) (e : s.heap.get? ia = some o) (it : ItO tp yl i o) (hv : xs[i]? = some v)
    (h : ∀ u h1 tk o1, RelV v u → h1.get? ia = some o1 → ItO tp yl (i + 1) o1 → (∀ b o, b ≠ ia → s.heap.get? b = some o → h1.get? b = some o) → Q (some u) { s with heap := h1, toks := tk }) :
    wpAny (model X.prog X.w) A (pyNext (.ref ia)) Q E s := by
  have hlt : i < xs.length := (List.getElem?_eq_some_iff.mp hv).1
  obtain ⟨c, d⟩ := it
  cases tp with
  | false =>
    obtain ⟨its, rel, pl, _⟩ := I.list (show SqL X.K H yl xs from sq)
    have hlen : its.toArray.size = xs.length := by rw [List.size_toArray, ← rel.length]
    have ne : yl ≠ ia := fun z => by
      obtain ⟨o', e', c', _⟩ := pl.isList
      rw [z, e] at e'
      cases e'
      rw [c] at c'
      injection c' with c'
      exact absurd c' (by decide)
    refine (Walks.list hd ia yl ne its.toArray).item i s _ _ (by rw [hlen]; exact hlt) ⟨⟨o, e, c, d⟩, pl.isList⟩ fun u h1 tk hu st keep => ?_
    obtain ⟨o1, e1, r1⟩ := st.1
    obtain ⟨u', hu', r'⟩ := rel.get hv
    have hu2 : its.toArray[i]? = some u := hu
    rw [show its.toArray[i]? = some u' by simpa using hu'] at hu2
    cases hu2
    exact h _ h1 tk o1 r' e1 r1 fun b o hb q => keep b o (by simpa using hb) q
  | true =>
    obtain ⟨its, rel, pl, _⟩ := I.tuple (show SqT X.K H yl xs from sq)
    have hlen : its.toArray.size = xs.length := by rw [List.size_toArray, ← rel.length]
    have ne : yl ≠ ia := fun z => by
      obtain ⟨o', e', c', _⟩ := id pl
      rw [z, e] at e'
      cases e'
      rw [c] at c'
      injection c' with c'
      exact absurd c' (by decide)
    refine (Walks.tuple hd ia yl ne its.toArray).item i s _ _ (by rw [hlen]; exact hlt) ⟨⟨o, e, c, d⟩, pl⟩ fun u h1 tk hu st keep => ?_
    obtain ⟨o1, e1, r1⟩ := st.1
    obtain ⟨u', hu', r'⟩ := rel.get hv
    have hu2 : its.toArray[i]? = some u := hu
    rw [show its.toArray[i]? = some u' by simpa using hu'] at hu2
    cases hu2
    exact h _ h1 tk o1 r' e1 r1 fun b o hb q => keep b o (by simpa using hb) q
theorem next_end {tp : Bool} {X : Cx} {pins : List (Addr × Obj)} {σ : L2.St} {H : Hp} {s : Shared} {yl ia : Addr} {xs : List V} {o : Obj} {A : Around} {Q : Option Value → Shared → Prop} {E : Value → Shared → Prop}
    (I : Inv X pins σ H s) (hd : A.handled = none) (sq : SqA tp X.K H yl xs) (e : s.heap.get? ia = some o) (it : ItO tp yl xs.length o)
    (h : ∀ h1 tk, (∀ b o, b ≠ ia → s.heap.get? b = some o → h1.get? b = some o) → Q none { s with heap := h1, toks := tk }) :
    wpAny (model X.prog X.w) A (pyNext (.ref ia)) Q E s := by
  obtain ⟨c, d⟩ := it
  cases tp with
  | false =>
    obtain ⟨its, rel, pl, _⟩ := I.list (show SqL X.K H yl xs from sq)
    have hlen : its.toArray.size = xs.length := by rw [List.size_toArray, ← rel.length]
    have ne : yl ≠ ia := fun z => by
      obtain ⟨o', e', c', _⟩ := pl.isList
      rw [z, e] at e'
      cases e'
      rw [c] at c'
      injection c' with c'
      exact absurd c' (by decide)
    exact (Walks.list hd ia yl ne its.toArray).done s _ _ ⟨by rw [hlen]; exact ⟨o, e, c, d⟩, pl.isList⟩ fun h1 tk keep => h h1 tk fun b o hb q => keep b o (by simpa using hb) q
  | true =>
    obtain ⟨its, rel, pl, _⟩ := I.tuple (show SqT X.K H yl xs from sq)
    have hlen : its.toArray.size = xs.length := by rw [List.size_toArray, ← rel.length]
    have ne : yl ≠ ia := fun z => by
      obtain ⟨o', e', c', _⟩ := id pl
      rw [z, e] at e'
      cases e'
      rw [c] at c'
      injection c' with c'
      exact absurd c' (by decide)
    exact (Walks.tuple hd ia yl ne its.toArray).done s _ _ ⟨by rw [hlen]; exact ⟨o, e, c, d⟩, pl⟩ fun h1 tk keep => h h1 tk fun b o hb q => keep b o (by simpa using hb) q

/-- between two turns: i things were asked, each of them is so -/
def GS (X : Cx) (ga : Addr) (go : Obj) (ia : Addr) (It : Nat → Obj → Prop) (σ0 : L2.St) (g : Nat) (Pv : Nat → Hp → Prop) (i : Nat) (s : Shared) : Prop :=
  ∃ H, Inv X [(ga, go)] σ0 H s ∧ H ia = none ∧ (∃ o, s.heap.get? ia = some o ∧ It i o) ∧ g < s.gens.size ∧ Pv i H
/-- what is told when one thing was asked -/
def GY (X : Cx) (ga : Addr) (go : Obj) (ia : Addr) (It : Nat → Obj → Prop) (σ0 : L2.St) (g : Nat) (Pv : Nat → Hp → Prop) (Qf : Hp → Prop) (n : Nat) : Protocol := fun m _ v s kap =>
  g < s.gens.size ∧ ∃ b : Bool, v = .bool b ∧ (if b = true then ∃ i, i + m = n ∧ GS X ga go ia It σ0 g Pv i s ∧
      ∀ s'' : Shared, s''.heap = s.heap → s''.os = s.os → AllBare s''.gens → g < s''.gens.size → kap (.send .none) s''
    else ∃ H, Inv X [(ga, go)] σ0 H s ∧ Qf H)
def GR (X : Cx) (ga : Addr) (go : Obj) (σ0 : L2.St) (g : Nat) (Pv : Nat → Hp → Prop) (n : Nat) (m : Nat) (s : Shared) : Prop :=
  m = 0 ∧ ∃ H, Inv X [(ga, go)] σ0 H s ∧ g < s.gens.size ∧ Pv n H
section
variable {tp : Bool} {X : Cx} {ga ia yl : Addr} {go : Obj} {σ0 : L2.St} {g : Nat} {Pv : Nat → Hp → Prop} {Qf : Hp → Prop} {xs : List V} {te : TE}
theorem GS.gens {It : Nat → Obj → Prop} {i : Nat} {s s' : Shared} (h : GS X ga go ia It σ0 g Pv i s) (hh : s'.heap = s.heap) (ho : s'.os = s.os) (hb : AllBare s'.gens) (hg : g < s'.gens.size) : GS X ga go ia It σ0 g Pv i s' := by
  obtain ⟨H, I, n, it, _, p⟩ := h
  exact ⟨H, inv_gens I hh ho hb, n, by rw [hh]; exact it, hg, p⟩
theorem pinNe {H : Hp} {s : Shared} {i : Nat} {o : Obj} (I : Inv X [(ga, go)] σ0 H s) (e' : s.heap.get? ia = some o) (it : ItO tp yl i o) (isGen : go.cls = .type "generator") (hpn : X.pn = []) :
    ∀ q ∈ X.pn ++ [(ga, go)], q.1 ≠ ia := by
  intro q hq
  rw [hpn, List.nil_append] at hq
  obtain rfl := List.mem_singleton.mp hq
  intro z
  obtain ⟨e, _⟩ := I.pin (ga, go) (List.mem_append_right _ (List.mem_singleton.mpr rfl))
  obtain ⟨c, _⟩ := it
  have z : ga = ia := z
  have e : s.heap.get? ga = some go := e
  rw [z, e'] at e
  cases e
  rw [isGen] at c
  injection c with c
  cases tp <;> exact absurd c (by decide)
theorem gl_loop {B : Around} {elt iter : Expr} {x : Str} {px pos : Pos} {scope : Scope} (hA : X.A = B.deeper X.env) (hd : B.handled = none)
    (isGen : go.cls = .type "generator") (hpn : X.pn = []) (hia : ia ∈ X.ex) (hN : X.N.Nodup) (h0 : X.N[0]? = some x) (hl : X.env.scope.names.lookup x = some .local) (hco : X.env.scope.isCoroutine = false)
    (hσ : σ0[0]? = some none) (hel : PE X elt te) (xe : ∀ e s, X.xe e s → False)
    (list_ : ∀ i H, Pv i H → SqA tp X.K H yl xs) (step : ∀ i v H, xs[i]? = some v → Pv i H → te (σ0.set 0 (some v)) H fun y H' => ∃ b, y = .bl b ∧ if b = true then Pv (i + 1) H' else Qf H') :
    ∀ (r i : Nat) (s0 s : Shared), xs.length - i = r → i ≤ xs.length → GS X ga go ia (ItO tp yl) σ0 g Pv i s →
      Seg (model X.prog X.w) B (fun m _ q s1 => q = .ok .next ∧ GR X ga go σ0 g Pv xs.length m s1) (GY X ga go ia (ItO tp yl) σ0 g Pv Qf xs.length) r s0
        (.compLoop (.GeneratorExp elt [⟨.Name x px, iter, [], 0⟩] scope pos) 0 (.ref ia) .none X.env)
        ((model X.prog X.w).den (.compLoop (.GeneratorExp elt [⟨.Name x px, iter, [], 0⟩] scope pos) 0 (.ref ia) .none X.env)) [] s := by
  have over : B.over (.compLoop (.GeneratorExp elt [⟨.Name x px, iter, [], 0⟩] scope pos) 0 (.ref ia) .none X.env) [] = X.A := by rw [over_gen, hA]
  have hd' : X.A.handled = none := by rw [hA]; exact hd
  intro r
  induction r with
  | zero =>
    intro i s0 s hr hi ⟨H, I, na, ⟨oi, ei, it⟩, hg, p⟩
    have hin : i = xs.length := by omega
    subst hin
    obtain ⟨exL, exC⟩ := I.ok.exf ia hia
    show Seg _ B _ _ _ s0 _ ((compTurn (.GeneratorExp elt [⟨.Name x px, iter, [], 0⟩] scope pos) 0 (.ref ia) .none X.env).onRaise (leaving X.env)) [] s
    rw [compTurn_gen, Sem.onRaise_eq_wrap]
    refine seg_bind_wrap (wpAny_standAt ?_)
    refine seg_bind_wrap ?_
    rw [over]
    refine next_end I hd' (list_ _ _ p) ei it fun h' tk keep => ?_
    have I2 := I.turned (t' := tk) keep na exL (.inl hia) exC (pinNe I ei it isGen hpn)
    exact seg_end (.ok .next) ⟨rfl, by omega, H, I2, hg, p⟩
  | succ r ih =>
    intro i s0 s hr hi ⟨H, I, na, ⟨oj, ej, it⟩, hg, p⟩
    have hlt : i < xs.length := by omega
    obtain ⟨exL, exC⟩ := I.ok.exf ia hia
    have exF := I.ok.exfs ia hia
    show Seg _ B _ _ _ s0 _ ((compTurn (.GeneratorExp elt [⟨.Name x px, iter, [], 0⟩] scope pos) 0 (.ref ia) .none X.env).onRaise (leaving X.env)) [] s
    rw [compTurn_gen, Sem.onRaise_eq_wrap]
    refine seg_bind_wrap (wpAny_standAt ?_)
    obtain ⟨v, hv⟩ : ∃ v, xs[i]? = some v := ⟨xs[i], List.getElem?_eq_getElem hlt⟩
    refine seg_bind_wrap ?_
    rw [over]
    refine next_turn I hd' (list_ _ _ p) ej it hv fun u h1 tk oi ru e1 itn keep => ?_
    have I1 := I.turned (t' := tk) keep na exL (.inl hia) exC (pinNe I ej it isGen hpn)
    have I1p : Inv X [(ga, go), (ia, oi)] σ0 H { s with heap := h1, toks := tk } := I1.pins_of fun q hq => by
      rcases List.mem_cons.mp hq with rfl | hq
      · exact I1.pin (ga, go) (List.mem_append_right _ (List.mem_singleton.mpr rfl))
      · obtain rfl := List.mem_singleton.mp hq
        exact ⟨e1, na, exL, exF, fun v z => by
          have z : oi.data = .cell v := z
          rw [itn.2] at z
          cases z⟩
    refine seg_bind_wrap (wpAny_of_eq (rfl : letOwnedTupleGo (.Name x px) (.ref ia) u = pure ()) ?_)
    refine seg_bind_wrap ?_
    rw [over]
    refine GenW.wpAny_gsz (n := g + 1) hg ?_
    refine wpAny_assign_Name (store_ok I1p hN h0 (.inl hl) ru (fun s2 I2 hg2 => ?_) (.inr hl))
    simp only [List.forIn_nil]
    refine seg_bind_wrap (wpAny_pure ?_)
    simp only [if_true]
    have hy : ∀ v, yieldOut X.env v = yieldValue v := fun v => by simp only [yieldOut, hco, Bool.false_eq_true, if_false]
    simp only [hy]
    rw [Sem.bind_eq_wrap', Sem.bind_eq_wrap', Sem.wrap_wrap, Sem.wrap_wrap]
    refine seg_wrap ?_
    rw [over]
    refine GenW.wpAny_gsz (n := g + 1) hg2 ?_
    refine wpAny_mono (hel.run _ s2 _ H _ I2 (step i v H hv p)) (fun y s3 got hg3 => ?_) (fun e s3 z _ => (xe e s3 z).elim)
    obtain ⟨yv, H3, I3, ry, b, rfl, q⟩ := got
    obtain rfl : y = Value.bool b := ry
    have I4 : Inv X [(ga, go), (ia, oi)] σ0 H3 s3 := I3.weak (by rw [List.length_set]) fun j z hz => by
      cases j with
      | zero =>
        rw [hσ] at hz
        cases hz
      | succ j =>
        rw [List.getElem?_set_ne (by omega)]
        exact hz
    obtain ⟨p1, p2, _⟩ := I4.pin (ia, oi) (List.mem_append_right _ (List.mem_cons_of_mem _ List.mem_cons_self))
    have I5 : Inv X [(ga, go)] σ0 H3 s3 := I4.pins_of fun q hq => by
      obtain rfl := List.mem_singleton.mp hq
      exact I4.pin (ga, go) (List.mem_append_right _ List.mem_cons_self)
    refine seg_at (seg_yield rfl rfl rfl ⟨hg3, b, rfl, ?_⟩)
    cases b with
    | false =>
      rw [if_neg Bool.false_ne_true] at q ⊢
      exact ⟨H3, I5, q⟩
    | true =>
      rw [if_pos rfl] at q ⊢
      have gs : GS X ga go ia (ItO tp yl) σ0 g Pv (i + 1) s3 := ⟨H3, I5, p2, ⟨oi, p1, itn⟩, hg3, q⟩
      exact ⟨i + 1, by omega, gs, fun s4 z1 z2 z3 z4 => seg_again rfl (ih (i + 1) s4 s4 (by omega) (by omega) (gs.gens z1 z2 z3 z4))⟩
theorem bare_set {s : Shared} {g : Nat} {y : GenState} (h : AllBare s.gens) (hy : y.bare = true) : AllBare (s.setGen g y).gens := by
  intro z hz
  have hz : z ∈ s.gens.setIfInBounds g y := hz
  rcases Array.mem_or_eq_of_mem_setIfInBounds hz with m | rfl
  · exact h z m
  · exact hy
theorem size_set {s : Shared} {g : Nat} {y : GenState} : (s.setGen g y).gens.size = s.gens.size := by simp [Shared.setGen]
/-- all over such a generator -/
theorem gl_all {A B : Around} {Rr : Result → Shared → Prop} (hd : A.handled = none) (hB : B = A.in1.in1) (depth : A.depth < recursionLimit) (isG : ∀ h : Heap, h.get? ga = some go → h.IsGen ga g)
    (fin : ∀ b s' H, Inv X [(ga, go)] σ0 H s' → (if b = true then Pv xs.length H else Qf H) → Rr (.ok (.ret (.bool b))) s') :
    ∀ (m i : Nat) (s : Shared) (gs : GenState), i + m = xs.length → GS X ga go ia (ItO tp yl) σ0 g Pv i s → s.gens[g]? = some gs →
      (∀ s'' : Shared, s''.heap = s.heap → s''.os = s.os → AllBare s''.gens → g < s''.gens.size →
        gs.Goes (model X.prog X.w) B (fun m _ q s1 => q = .ok .next ∧ GR X ga go σ0 g Pv xs.length m s1) (GY X ga go ia (ItO tp yl) σ0 g Pv Qf xs.length) m (.send .none) s'') →
      codeAny (model X.prog X.w) A (.builtin "all.loop" ⟨[.ref ga], []⟩) Rr s := by
  intro m
  induction m with
  | zero =>
    intro i s gs him st hgs goes
    obtain ⟨H, I, na, it, hg, p⟩ := id st
    obtain ⟨pg, _⟩ := I.pin (ga, go) (List.mem_append_right _ (List.mem_singleton.mpr rfl))
    refine codeAny_builtin F.entry_all_loop ?_
    rw [Around.under_plainId F.plain_all_loop _]
    show wpAny _ A.in1 (pyNext (.ref ga) >>= _) _ _ s
    refine wpAny_bind ?_
    subst hB
    refine wpAny_pyNext_genexpQ (P := fun m _ s1 => GR X ga go σ0 g Pv xs.length m s1) hd I.nolimit depth (isG _ pg) hgs (goes _ rfl rfl (bare_set I.bare rfl) (by rw [size_set]; exact hg)) (fun v s1 gs' bare' got => ?_) (fun s1 got h' keep => ?_)
    · obtain ⟨hg1, b, rfl, q⟩ := got
      cases b with
      | false =>
        rw [if_neg Bool.false_ne_true] at q
        obtain ⟨H1, I1, q⟩ := q
        refine wpAny_bind (wpAny_holding (wpAny_truthy_bool ?_))
        refine wpAny_bind (wpAny_letGo ?_)
        simp only [Bool.false_eq_true, if_false]
        refine wpAny_bind (wpAny_rule (wpAny_pure ?_))
        exact fin false _ H1 (inv_gens I1 rfl rfl (bare_set I1.bare bare')) (by rw [if_neg Bool.false_ne_true]; exact q)
      | true =>
        rw [if_pos rfl] at q
        obtain ⟨j, hj, ⟨_, I1, _⟩, kap⟩ := q
        exact (kap s1 rfl rfl I1.bare hg1).elim
    · obtain ⟨_, H1, I1, hg1, q⟩ := got
      refine wpAny_bind (wpAny_rule (wpAny_pure ?_))
      have I2 := I1.kept (t' := s1.toks) keep
      exact fin true _ H1 (inv_gens I2 rfl rfl (bare_set I1.bare rfl)) (by rw [if_pos rfl]; exact q)
  | succ m ih =>
    intro i s gs him st hgs goes
    obtain ⟨H, I, na, it, hg, p⟩ := id st
    obtain ⟨pg, _⟩ := I.pin (ga, go) (List.mem_append_right _ (List.mem_singleton.mpr rfl))
    refine codeAny_builtin F.entry_all_loop ?_
    rw [Around.under_plainId F.plain_all_loop _]
    show wpAny _ A.in1 (pyNext (.ref ga) >>= _) _ _ s
    refine wpAny_bind ?_
    subst hB
    refine wpAny_pyNext_genexpQ (P := fun m _ s1 => GR X ga go σ0 g Pv xs.length m s1) hd I.nolimit depth (isG _ pg) hgs (goes _ rfl rfl (bare_set I.bare rfl) (by rw [size_set]; exact hg)) (fun v s1 gs' bare' got => ?_) (fun s1 got h' keep => ?_)
    · obtain ⟨hg1, b, rfl, q⟩ := got
      refine wpAny_bind (wpAny_holding (wpAny_truthy_bool ?_))
      refine wpAny_bind (wpAny_letGo ?_)
      cases b with
      | false =>
        rw [if_neg Bool.false_ne_true] at q
        obtain ⟨H1, I1, q⟩ := q
        simp only [Bool.false_eq_true, if_false]
        refine wpAny_bind (wpAny_rule (wpAny_pure ?_))
        exact fin false _ H1 (inv_gens I1 rfl rfl (bare_set I1.bare bare')) (by rw [if_neg Bool.false_ne_true]; exact q)
      | true =>
        rw [if_pos rfl] at q
        obtain ⟨j, hj, st1, kap⟩ := q
        simp only [if_true]
        have bare1 : AllBare s1.gens := by
          obtain ⟨_, I1, _⟩ := st1
          exact I1.bare
        have jm : j + m = xs.length := by omega
        refine wpAny_pure ⟨plainId_quiet F.plain_all_loop _, ih j _ gs' jm (st1.gens rfl rfl (bare_set bare1 bare') (by rw [size_set]; exact hg1)) (by simp [Shared.setGen, hg1]) fun s2 z1 z2 z3 z4 => ?_⟩
        exact kap s2 z1 z2 z3 z4
    · obtain ⟨z, _⟩ := got
      exact absurd z (Nat.succ_ne_zero m)
theorem gl_start {B : Around} {elt iter : Expr} {x : Str} {px pos : Pos} {scope : Scope} {n : Nat} {s0 s : Shared} {R : GenEnd} {Y : Protocol} (hd : B.handled = none) {i : Nat} (it : ∃ o, s.heap.get? ia = some o ∧ ItO tp yl i o)
    (loop : Seg (model X.prog X.w) B R Y n s0 (.compLoop (.GeneratorExp elt [⟨.Name x px, iter, [], 0⟩] scope pos) 0 (.ref ia) .none X.env)
        ((model X.prog X.w).den (.compLoop (.GeneratorExp elt [⟨.Name x px, iter, [], 0⟩] scope pos) 0 (.ref ia) .none X.env)) [] s) :
    Seg (model X.prog X.w) B R Y n s0 (.compStart (.GeneratorExp elt [⟨.Name x px, iter, [], 0⟩] scope pos) 0 (.ref ia) .none X.env)
      ((model X.prog X.w).den (.compStart (.GeneratorExp elt [⟨.Name x px, iter, [], 0⟩] scope pos) 0 (.ref ia) .none X.env)) [] s := by
  have self : ∀ (A : Around) (Q : Value → Shared → Prop) (E : Value → Shared → Prop), Q (.ref ia) s → wpAny (model X.prog X.w) A (pyIter (.ref ia)) Q E s := fun A Q E h => by
    obtain ⟨o, e, c, d⟩ := it
    cases tp with
    | false => exact wpAny_pyIter_listiter ⟨o, e, c, d⟩ h
    | true => exact wpAny_pyIter_tupleiter ⟨o, e, c, d⟩ h
  show Seg _ B _ _ _ s0 _ ((compStart (.GeneratorExp elt [⟨.Name x px, iter, [], 0⟩] scope pos) 0 (.ref ia) .none X.env).onRaise (leaving X.env)) [] s
  unfold compStart
  rw [Sem.onRaise_eq_wrap]
  show Seg _ B _ _ _ s0 _ ((ask >>= _).wrap _ _ _ _) [] s
  refine seg_bind_wrap (wpAny_askSetting ?_)
  split
  · exact seg_again rfl loop
  · first
      | exact seg_bind_wrap (wpAny_rule (seg_bind_wrap (wpAny_standAt (seg_bind_wrap (self _ _ _ (seg_again rfl loop))))))
      | (refine seg_bind_wrap (wpAny_rule ?_)
         exact seg_bind_wrap (wpAny_standAt (seg_bind_wrap (self _ _ _ (seg_again rfl loop)))))
end
/-- all(elt for x in e), e a list or a tuple -/
def tAllL (tp : Bool) (K : PySem.W.Frag) (P : Addr) (cs : List (Str × Nat)) (tl te : TE) : TE := fun σ H Q => tl σ H fun v H1 => ∃ (a : Addr) (xs : List V), v = .ref a ∧ SqA tp K H1 a xs ∧ GxR.TabG H1 P ∧
  ∃ Pv : Nat → Hp → Prop, (∀ H2, GxR.Tabbed P H1 H2 → Pv 0 H2) ∧ (∀ i H, Pv i H → SqA tp K H a xs) ∧
    (∀ i v H, xs[i]? = some v → Pv i H → te (some v :: cs.map (fun p => σ.getD p.2 none)) H fun y H' => ∃ b, y = .bl b ∧ if b = true then Pv (i + 1) H' else Q (.bl false) H') ∧
    ∀ H, Pv xs.length H → Q (.bl true) H
theorem iter_of {tp : Bool} {X : Cx} {pins : List (Addr × Obj)} {σ : L2.St} {H : Hp} {s : Shared} {a : Addr} {xs : List V} {A : Around} {Q : Value → Shared → Prop} {E : Value → Shared → Prop}
    (I : Inv X pins σ H s) (sq : SqA tp X.K H a xs) (h : Q (.ref s.heap.objs.size) { s with heap := s.heap.push { cls := .type (itN tp), data := .fields #[.ref a, .int 0 0] } }) :
    wpAny (model X.prog X.w) A (pyIter (.ref a)) Q E s := by
  cases tp with
  | false =>
    obtain ⟨its, _, pl, _⟩ := I.list (show SqL X.K H a xs from sq)
    exact wpAny_pyIter_list pl.isList h
  | true =>
    obtain ⟨its, _, pl, _⟩ := I.tuple (show SqT X.K H a xs from sq)
    exact wpAny_pyIter_tuple pl h
theorem pe_allL (tp : Bool) {X : Cx} {c P : Addr} {elt iter : Expr} {x : Str} {px p pos gpos : Pos} {scope : Scope} (cs : List (Str × Nat)) {tl te : TE} {k : Nat}
    (room : Room (k + 3) X.A) (hg : Gl X "all") (hm : X.mg "all" = none) (hb : bootBuiltins "all" = some (.builtin "all")) (tabB : GxR.TabB X.base X.mg c P) (code_ : X.env.code = .ref c)
    (S : GxR.GenS X.env scope x) (it_ : PE X iter tl) (nd : (x :: cs.map (·.1)).Nodup)
    (caps : ∀ q ∈ cs, X.N[q.2]? = some q.1 ∧ X.env.scope.names.lookup q.1 = some .cell ∧ scope.names.lookup q.1 = some .free ∧
      ∀ b, X.env.cells.lookup q.1 = some b → (cloFrom X.env.cells scope.names []).lookup q.1 = some b)
    (el_ : ∀ (cv : Value) (s : Shared) (H : Hp) (ia : Addr) (A : Around), Room k A →
      PE (gx X (genEnv scope (cloFrom X.env.cells scope.names []) s.heap.objs.size cv builtinsNs X.env) (x :: cs.map (·.1)) s H ia A) elt te)
    (fold_ : ∀ v, genFold iter X.env v = pure v)
    (he : starEach [.GeneratorExp elt [⟨.Name x px, iter, [], 0⟩] scope gpos] X.env =
      (false, eval (.GeneratorExp elt [⟨.Name x px, iter, [], 0⟩] scope gpos) X.env) :: starEach [] X.env := by rfl) :
    PE X (.Call (.Name "all" p) [.GeneratorExp elt [⟨.Name x px, iter, [], 0⟩] scope gpos] [] pos) (tAllL tp X.K P cs tl te) := by
  refine ⟨fun pins s σ H Q I h => ?_⟩
  refine wpAny_Call_Name_kw (ld_blt I hg hm hb ?_)
  refine PyProof.Rows.callWith_builtin1 ?_ he (by rfl)
  rw [he]
  refine (show wpAny _ _ (spliced ((false, eval (.GeneratorExp elt [⟨.Name x px, iter, [], 0⟩] scope gpos) X.env) ::
    backTo pos (starEach [] X.env))) _ _ s from ?_)
  refine Calls.spliced_cons ?_
  refine wpAny_GeneratorExp_make S.co (closure_ok S.free) S.cell S.dot S.kind (by have := room.dp; omega) ?_ fold_
  refine thn (it_.run pins s σ H _ I h) fun vx r1 ⟨v, H1, J, rel, want⟩ => ?_
  obtain ⟨a, xs, rfl, sq, ⟨tb, hTP, htri⟩, Pv, p0, pl, step, fin⟩ := want
  obtain rfl : vx = Value.ref a := rel
  refine iter_of J sq ?_
  have tabS : r1.heap.get? P = some { cls := .none, data := .fields tb } := J.hok P _ hTP
  have ltP : P < r1.heap.objs.size := Heap.lt_size tabS
  generalize hob : ({ cls := .type (itN tp), data := .fields #[.ref a, .int 0 0] } : Obj) = ob
  have tabN : (r1.heap.push ob).get? P = some { cls := .none, data := .fields tb } := Heap.get?_push_of_some _ tabS
  have hdN : PySem.W.CodeHd (r1.heap.push ob) c P := tabB.code.keeps fun b' u' e' => Heap.get?_push_of_some _ (J.bk b' u' e')
  have limN : (r1.heap.push ob).NoLimit := J.nolimit.push ob
  have obN : (r1.heap.push ob).get? r1.heap.objs.size = some ob := Heap.get?_push_size _ (by rw [← hob]; rfl)
  refine ⟨limN, ?_⟩
  have szN : (r1.heap.push ob).objs.size = r1.heap.objs.size + 1 := Heap.size_push ..
  have onward : ∀ (cv : Value) (h3 : Heap) (n3 : Nat) (tb' : Array Value), Heap.ExtBut P (r1.heap.push ob) h3 →
      (r1.heap.push ob).objs.size ≤ h3.objs.size → h3.get? P = some { cls := .none, data := .fields tb' } →
      (∃ more, tb' = tb ++ more) → TriplesOk tb'.toList →
      wpAny (model X.prog X.w) X.A (builtinsFor X.env.globals X.env.builtins) (fun bi s4 =>
        ∀ h', h'.Ns s4.heap.objs.size (fun y => if y = ".0" then some (.ref r1.heap.objs.size) else none) → Heap.SameBut s4.heap.objs.size (s4.heap.push { cls := .type "frame", data := .dict #[] }) h' →
          wpAny (model X.prog X.w) X.A (spliced (backTo pos (starEach [] X.env))) (fun vs s6 => wpAny (model X.prog X.w) X.A (call (.builtin "all") (.ref h'.objs.size :: vs)) (EP X pins σ Q) X.xe s6) X.xe
            { s4 with
              gens := s4.gens.push (.fresh (.compStart (.GeneratorExp elt [⟨.Name x px, iter, [], 0⟩] scope gpos) 0 (.ref r1.heap.objs.size) .none (genEnv scope (cloFrom X.env.cells scope.names []) s4.heap.objs.size cv bi X.env))),
              toks := s4.toks + 1 + 1 + 1,
              heap := h'.push { cls := .type "generator", data := .fields #[.int s4.gens.size 0, .str "<genexpr>" (s4.toks + 1), .str (X.env.qual ++ "<genexpr>") (s4.toks + 1 + 1)] } }) X.xe
        { r1 with heap := h3, toks := n3 } := by
    intro cv h3 n3 tb' ext sz3 tab3 grew tri3
    obtain ⟨bm, mo, f1, f2, f3, f4, f5, f6, f7, f8⟩ := tabB.bm
    have old3 : ∀ b' u', b' ≠ P → r1.heap.get? b' = some u' → h3.get? b' = some u' := fun b' u' ne e' => ext b' u' ne (Heap.get?_push_of_some _ e')
    refine wpAny_builtinsFor (m := X.mg) (by rw [J.ok.glob]; exact ((J.mod.glob.keeps J.bk).push ob).extBut ext tabB.gP) f1 f2 (old3 _ _ f4 (J.bk _ _ f5)) f6 f7 f8 ?_
    intro h' ns sb
    obtain ⟨more, em⟩ := grew
    have J4 := GxR.inv_tab (more := more) (h' := h3) (g' := r1.gens) (d' := r1.drawn) (t' := n3) J hTP old3 (by rw [← em]; exact tab3) J.bare
    generalize hH2 : upd H1 P (.tbl (tb ++ more)) = H2 at J4
    have tbd : GxR.Tabbed P H1 H2 := by
      rw [← hH2]
      exact ⟨⟨tb ++ more, upd_same, by rw [← em]; exact tri3⟩, fun b' ne => upd_ne ne⟩
    generalize hgo : ({ cls := .type "generator", data := .fields #[.int r1.gens.size 0, .str "<genexpr>" (n3 + 1), .str (X.env.qual ++ "<genexpr>") (n3 + 1 + 1)] } : Obj) = go
    have i1 : r1.heap.objs.size < h3.objs.size := Nat.lt_of_lt_of_le (by rw [szN]; exact Nat.lt_succ_self _) sz3
    have ia3 : h3.get? r1.heap.objs.size = some ob := ext _ _ (Nat.ne_of_gt ltP) obN
    have ia' : h'.get? r1.heap.objs.size = some ob := sb.extBut _ _ (Nat.ne_of_lt i1) (Heap.get?_push_of_some _ ia3)
    have i2 : ∀ y b, X.env.cells.lookup y = some b → b ≠ r1.heap.objs.size := fun y b e => by
      obtain ⟨v, z⟩ := J.cell y b e
      exact Nat.ne_of_lt z.lt
    have i3 : ∀ b o, X.base.get? b = some o → b ≠ r1.heap.objs.size := fun b o e => Nat.ne_of_lt (Heap.lt_size (J.bk b o e))
    have i4 : r1.heap.objs.size ∉ frs X.stack := fun z => by
      obtain ⟨_, o, ho, _⟩ := J.stack.mem z
      exact absurd (Heap.lt_size ho) (Nat.lt_irrefl _)
    have I0 := gen_start (cs := cs) (cv := cv) (ia := r1.heap.objs.size) (A := X.A.in1.in1.deeper (genEnv scope (cloFrom X.env.cells scope.names []) h3.objs.size cv builtinsNs X.env))
      (tk := n3 + 1 + 1 + 1) (h2 := h'.push go) (g2 := r1.gens.push (.fresh (.compStart (.GeneratorExp elt [⟨.Name x px, iter, [], 0⟩] scope gpos) 0 (.ref r1.heap.objs.size) .none (genEnv scope (cloFrom X.env.cells scope.names []) h3.objs.size cv builtinsNs X.env))))
      J4 S caps room.hd (by simp [Around.deeper, Around.in1, J4.ok.frames]) i1 i2 i3 i4 ns sb (fun b o e => Heap.get?_push_of_some _ e) (J.bare.push rfl)
    have hel := el_ cv { r1 with heap := h3, toks := n3 } H2 r1.heap.objs.size (X.A.in1.in1.deeper (genEnv scope (cloFrom X.env.cells scope.names []) h3.objs.size cv builtinsNs X.env)) (room.in1.in1.deeper _)
    generalize hY : gx X (genEnv scope (cloFrom X.env.cells scope.names []) h3.objs.size cv builtinsNs X.env) (x :: cs.map (·.1)) { r1 with heap := h3, toks := n3 } H2 r1.heap.objs.size (X.A.in1.in1.deeper (genEnv scope (cloFrom X.env.cells scope.names []) h3.objs.size cv builtinsNs X.env)) = Y at I0 hel
    have isgo : go.cls = .type "generator" := by rw [← hgo]
    have gaI : (h'.push go).get? h'.objs.size = some go := Heap.get?_push_size _ (by rw [← hgo]; rfl)
    have szH : h'.objs.size = h3.objs.size + 1 := sb.1.trans (Heap.size_push ..)
    have gaH : H2 h'.objs.size = none := J4.hok.fresh (show h3.objs.size ≤ h'.objs.size by omega)
    have I1 : Inv Y [(h'.objs.size, go)] (none :: cs.map (fun p => σ.getD p.2 none)) H2 { r1 with heap := h'.push go, gens := r1.gens.push (.fresh (.compStart (.GeneratorExp elt [⟨.Name x px, iter, [], 0⟩] scope gpos) 0 (.ref r1.heap.objs.size) .none (genEnv scope (cloFrom X.env.cells scope.names []) h3.objs.size cv builtinsNs X.env))), toks := n3 + 1 + 1 + 1 } :=
      I0.pins_of fun q hq => by
        obtain rfl := List.mem_singleton.mp hq
        refine ⟨gaI, gaH, ?_, ?_, ?_⟩
        · rw [← hY]
          show h'.objs.size ≠ h3.objs.size
          omega
        · rw [← hY]
          intro z
          obtain ⟨_, o, ho, _⟩ := J.stack.mem (show h'.objs.size ∈ frs X.stack from z)
          have q1 : h'.objs.size < r1.heap.objs.size := Heap.lt_size ho
          omega
        · intro v z
          rw [← hgo] at z
          cases z
    have gs0 : GS Y h'.objs.size go r1.heap.objs.size (ItO tp a) (none :: cs.map (fun p => σ.getD p.2 none)) r1.gens.size Pv 0
        { r1 with heap := h'.push go, gens := r1.gens.push (.fresh (.compStart (.GeneratorExp elt [⟨.Name x px, iter, [], 0⟩] scope gpos) 0 (.ref r1.heap.objs.size) .none (genEnv scope (cloFrom X.env.cells scope.names []) h3.objs.size cv builtinsNs X.env))), toks := n3 + 1 + 1 + 1 } := by
      refine ⟨H2, I1, ?_, ⟨ob, Heap.get?_push_of_some _ ia', ?_⟩, by simp, p0 H2 tbd⟩
      · rw [← hH2, upd_ne (Nat.ne_of_gt ltP)]
        exact J.hok.fresh (Nat.le_refl _)
      · rw [← hob]
        exact ⟨rfl, rfl⟩
    have nY : Y.N.Nodup := by rw [← hY]; exact nd
    have gl := gl_loop (X := Y) (B := X.A.in1.in1) (ga := h'.objs.size) (go := go) (ia := r1.heap.objs.size) (yl := a) (tp := tp) (σ0 := none :: cs.map (fun p => σ.getD p.2 none)) (g := r1.gens.size) (Pv := Pv) (Qf := fun H' => Q (.bl false) H')
      (xs := xs) (te := te) (elt := elt) (iter := iter) (x := x) (px := px) (pos := gpos) (scope := scope) (by rw [← hY]; rfl) room.hd isgo (by rw [← hY]; rfl) (by rw [← hY]; exact List.mem_singleton.mpr rfl) nY
      (by rw [← hY]; rfl) (by rw [← hY]; exact S.loc) (by rw [← hY]; exact S.co) rfl hel (fun e s z => by rw [← hY] at z; exact z) (fun i H p => by rw [← hY]; exact pl i H p) (fun i v H hv p => (show (none :: cs.map (fun p => σ.getD p.2 none) : L2.St).set 0 (some v) = some v :: cs.map (fun p => σ.getD p.2 none) from rfl) ▸ step i v H hv p)
    have eY : Y.env = genEnv scope (cloFrom X.env.cells scope.names []) h3.objs.size cv builtinsNs X.env := by rw [← hY]; rfl
    refine Calls.spliced_nil ?_
    refine call_function_tree F.kind_all F.plain_all F.entry_all (F.args_all1 _) ?_
    unfold Builtin.«all»
    refine wpAny_bind (m := oneArg "all" _) (wpAny_pure ?_)
    refine wpAny_bind ?_
    have isG : ∀ h : Heap, h.get? h'.objs.size = some go → h.IsGen h'.objs.size r1.gens.size := fun h e =>
      ⟨go, _, _, e, isgo, by rw [← hgo], by rw [← hgo]⟩
    refine wpAny_pyIter_gen (isG _ gaI) ?_
    refine wpAny_pure ⟨plainId_quiet F.plain_all_loop _, ?_⟩
    have pY : model X.prog X.w = model Y.prog Y.w := by rw [← hY]; rfl
    rw [pY]
    refine gl_all (X := Y) (A := X.A) (B := X.A.in1.in1) (g := r1.gens.size) (tp := tp) (yl := a) (ia := r1.heap.objs.size) (σ0 := none :: cs.map (fun p => σ.getD p.2 none)) (Pv := Pv) (Qf := fun H' => Q (.bl false) H') (xs := xs) room.hd rfl room.depth isG ?_ xs.length 0 _ _ (Nat.zero_add _) gs0 Array.getElem?_push_size ?_
    · intro b s' H3 I3 q
      have e3 : s'.os = r1.os := by
        have := I3.os
        rw [← hY] at this
        exact this
      have u3 : Un (frs X.stack) [r1.heap.objs.size] H2 H3 h3 s'.heap := by
        have := I3.base
        rw [← hY] at this
        exact this
      have ok3 : HOk X.prog X.w H3 s'.heap := by
        have := I3.hok
        rw [← hY] at this
        exact this
      have out := J4.call' (s' := s') e3 u3 ok3 I3.bare (fun b hb => by
        obtain rfl := List.mem_singleton.mp hb
        refine ⟨.inr J.sz, Nat.ne_of_gt J.lt, i2, fun p hp z => ?_⟩
        obtain ⟨e, _⟩ := J.pin p hp
        rw [z] at e
        exact absurd (Heap.lt_size e) (Nat.lt_irrefl _))
      refine ⟨.bl b, H3, out, rfl, ?_⟩
      cases b with
      | true => rw [if_pos rfl] at q; exact fin H3 q
      | false => rw [if_neg Bool.false_ne_true] at q; exact q
    · intro s2 z1 z2 z3 z4
      refine ⟨rfl, ?_⟩
      have gs2 := gs0.gens z1 z2 z3 z4
      have lp := gl xs.length 0 s2 s2 (by omega) (Nat.zero_le _) gs2
      have out := gl_start (X := Y) (B := X.A.in1.in1) room.hd (tp := tp) (yl := a) (i := 0) (ia := r1.heap.objs.size) (by
        rw [z1]
        refine ⟨ob, Heap.get?_push_of_some _ ia', ?_⟩
        rw [← hob]
        exact ⟨rfl, rfl⟩) lp
      rw [eY] at out
      exact out
  cases seek : codeAmong gpos tb.toList with
  | none =>
    refine wpAny_genexprCodeX code_ (hdN.code tabN htri) (hdN.tab tabN) seek fun c' h' n' ext ge lt hco' _ htab' _ => ?_
    obtain ⟨_, _, _, _, _, _, _, _, _, _, _, _, _, _, _, _, _, _, _, tri', _⟩ := hco'
    exact onward _ h' n' _ ext (Nat.le_trans ge (Nat.le_of_lt lt)) htab'.2 ⟨_, rfl⟩ tri'
  | some cv =>
    refine wpAny_genexprCode_hit code_ (hdN.code tabN htri) seek ?_
    exact onward cv (r1.heap.push ob) r1.toks tb (Heap.ExtBut.refl _ _) (Nat.le_refl _) tabN ⟨#[], by simp⟩ htri
end LL
namespace LL
open PySem PySem.Spec PyProof.Rows L2

/-- the element over one sign; the name y is captured and holds the text b -/
def EltC (prog : Program) (w : World) (scope : Scope) (x y : Str) (elt : Expr) (b : Str) (pb : Nat → Bool) : Prop :=
  ∀ (ce : Env) (B : Around) (Ex : Value → Shared → Prop) (d : Nat) (u v : Tok) (r : Shared) (mm : Str → Option Value) (q : Addr),
    ce.scope = scope → ce.cells.lookup y = some q → r.heap.IsCell q (some (.str b v)) → r.heap.Ns ce.locals mm →
    mm x = some (.str ⟨#[d]⟩ u) → wpAny (model prog w) B (eval elt ce) (fun z r' => z = .bool (pb d) ∧ Keeps r r') Ex r

/-- sign in signs -/
theorem elt_in {prog : Program} {w : World} {scope : Scope} {x y b : Str} {p1 p2 p3 : Pos} (hk : scope.kind = .function)
    (hl : scope.names.lookup x = some .local) (hy : scope.names.lookup y = some .free)
    (d1 : (x == ("__debug__" : Str)) = false := by decide) (d2 : (y == ("__debug__" : Str)) = false := by decide)
    (d3 : (y == ("__classdict__" : Str)) = false := by decide) :
    EltC prog w scope x y (.Compare (.Name x p1) [.In] [.Name y p2] p3) b
      (fun c => !(Builtin.Str.occurrences b ⟨#[c]⟩ 0 b.length 1).isEmpty) := by
  intro ce B Ex d u v r mm q hs hc hq hn hm
  refine wpAny_Compare1 ?_
  refine wpAny_Name (wpAny_loadName_local (by rw [hs]; exact hk)
    (show ce.scope.names.lookup x = some .local by rw [hs]; exact hl) hn hm ?_) d1
  refine wpAny_Name (wpAny_loadName_free (by rw [hs]; exact hk)
    (show ce.scope.names.lookup y = some .free by rw [hs]; exact hy) hc hq ?_ d3) d2
  exact in_str ⟨rfl, GxR.keeps_tok _ _⟩

section
variable {X : Cx} {pins : List (Addr × Obj)} {σ : L2.St} {H : Hp} {s : Shared}

theorem gen_cap {c P : Addr} {elt iter : Expr} {x y : Str} {px gpos : Pos} {scope : Scope} {pb : Str → Nat → Bool}
    {te : TE} {k j : Nat} {Q' : Value → Shared → Prop} {R : Str → Str → Hp → Prop}
    (room : Room k X.A) (tabB : GxR.TabB X.base X.mg c P) (code_ : X.env.code = .ref c) (S : GxR.GenS X.env scope x)
    (it_ : PE X iter te) (el_ : ∀ b, EltC X.prog X.w scope x y elt b (pb b))
    (hj : X.N[j]? = some y) (hcel : X.env.scope.names.lookup y = some .cell)
    (hclo : ∀ cells q, cells.lookup y = some q → (cloFrom cells scope.names []).lookup y = some q)
    (fold_ : ∀ v, genFold iter X.env v = pure v) (I : Inv X pins σ H s)
    (h : te σ H fun v H1 => ∃ a b : Str, v = .str a ∧ σ[j]? = some (some (.str b)) ∧ GxR.TabG H1 P ∧ R a b H1)
    (fin : ∀ a b H1 g s5, R a b H1 → GxR.Ready X pins σ H1 P a (pb b) g s5 → Q' (.ref g) s5) :
    wpAny (model X.prog X.w) X.A (eval (.GeneratorExp elt [⟨.Name x px, iter, [], 0⟩] scope gpos) X.env) Q' X.xe s := by
  refine wpAny_GeneratorExp_walksQ room.hd S.co (closure_ok S.free) S.cell S.dot S.loc S.kind
    (by have := room.dp; omega) ?_ fold_
  refine thn (it_.run pins s σ H _ I h) fun vx r1 ⟨v, H1, J, rel, want⟩ => ?_
  obtain ⟨a, b, rfl, hb, ⟨tb, hTP, htri⟩, want⟩ := want
  obtain ⟨tk0, rfl⟩ := _root_.id rel
  -- the captured cell
  obtain ⟨mloc, _, hlook⟩ := J.loc
  obtain ⟨ub, rub, lub⟩ := hlook j y (.str b) hj hb (Or.inr (Or.inl hcel))
  obtain ⟨tkb, rfl⟩ := (show ∃ t, ub = Value.str b t from rub)
  have capt : ∃ q, X.env.cells.lookup y = some q ∧ r1.heap.IsCell q (some (.str b tkb)) := by
    rcases lub with ⟨hk1, _⟩ | ⟨_, q, hq1, hq2⟩
    · have hk2 : X.env.scope.names.lookup y = some .local := hk1
      rw [hcel] at hk2
      cases hk2
    · exact ⟨q, hq1, hq2⟩
  obtain ⟨q, hq1, oq, hqo, hqd⟩ := capt
  refine wpAny_pyIter_str fun ob Stp Wk hst0 => ?_
  have tabS : r1.heap.get? P = some { cls := .none, data := .fields tb } := J.hok P _ hTP
  have qP : q ≠ P := fun z => by
    rw [z, tabS] at hqo
    cases hqo
    cases hqd
  have ltP : P < r1.heap.objs.size := Heap.lt_size tabS
  have ltq : q < r1.heap.objs.size := Heap.lt_size hqo
  have tabN : (r1.heap.push ob).get? P = some { cls := .none, data := .fields tb } := Heap.get?_push_of_some _ tabS
  have hdN : PySem.W.CodeHd (r1.heap.push ob) c P :=
    tabB.code.keeps fun b' u' e' => Heap.get?_push_of_some _ (J.bk b' u' e')
  have limN : (r1.heap.push ob).NoLimit := J.nolimit.push ob
  refine ⟨limN, ?_⟩
  -- behind the code object, whichever it is
  have onward : ∀ (cv : Value) (h3 : Heap) (n3 : Nat) (tb' : Array Value), Heap.ExtBut P (r1.heap.push ob) h3 →
      (r1.heap.push ob).objs.size ≤ h3.objs.size → h3.get? P = some { cls := .none, data := .fields tb' } →
      (∃ more, tb' = tb ++ more) → TriplesOk tb'.toList →
      wpAny (model X.prog X.w) X.A (builtinsFor X.env.globals X.env.builtins) (fun bi s4 =>
        ∃ Ia fp wr n₀ Pf St₀ pz F, Value.ref r1.heap.objs.size = .ref Ia ∧
          (∀ A2 : Around, A2.handled = none → Walks X.prog X.w A2 Ia fp wr n₀ Pf St₀) ∧ St₀ 0 s4.heap ∧
          (∀ b' ∈ fp, b' < s4.heap.objs.size) ∧ s4.heap.NoLimit ∧ cStatics ∉ wr ∧
          (∀ hr : Heap, (∀ b' o', s4.heap.get? b' = some o' → hr.get? b' = some o') →
            QuietGen X.prog X.w
              (genEnv scope (cloFrom X.env.cells scope.names []) s4.heap.objs.size cv bi X.env)
              x [] elt (List.range s4.heap.objs.size) wr Pf pz F hr) ∧
          (∀ a' h5 n5 gs, gs.bare = true → s4.heap.objs.size < a' → h5.objs.size = a' + 1 →
            (∀ b' o', s4.heap.get? b' = some o' → h5.get? b' = some o') →
            WalksS X.prog X.w X.A.in4 a' (a' :: s4.heap.objs.size :: List.range s4.heap.objs.size)
              (s4.heap.objs.size :: wr) (GenOnlyQ s4.gens.size) (passing pz n₀ 0).length
              (fun i' y' => ∃ i, (passing pz n₀ 0)[i']? = some i ∧ F i y')
              (GenAt X.prog X.w X.A.in4 a' s4.gens.size s4.heap.objs.size
                (List.range s4.heap.objs.size) wr pz n₀ F) →
            GenAt X.prog X.w X.A.in4 a' s4.gens.size s4.heap.objs.size
              (List.range s4.heap.objs.size) wr pz n₀ F 0
              { s4 with gens := s4.gens.push gs, toks := n5, heap := h5 } →
            Q' (.ref a') { s4 with gens := s4.gens.push gs, toks := n5, heap := h5 })) X.xe
        { r1 with heap := h3, toks := n3 } := by
    intro cv h3 n3 tb' ext sz3 tab3 grew tri3
    obtain ⟨bm, mo, f1, f2, f3, f4, f5, f6, f7, f8⟩ := tabB.bm
    have statP : cStatics ≠ P := fun z => by
      obtain ⟨_, hns, _⟩ := J.nolimit
      obtain ⟨_, _, _, ho, hd, _⟩ := hns
      rw [z, tabS] at ho
      cases ho
      cases hd
    have statL : cStatics < r1.heap.objs.size := by
      obtain ⟨_, hns, _⟩ := J.nolimit
      exact hns.lt
    have szN : (r1.heap.push ob).objs.size = r1.heap.objs.size + 1 := Heap.size_push ..
    have old3 : ∀ b' u', b' ≠ P → r1.heap.get? b' = some u' → h3.get? b' = some u' :=
      fun b' u' ne e' => ext b' u' ne (Heap.get?_push_of_some _ e')
    have cell3 : h3.get? q = some oq := old3 q oq qP hqo
    refine wpAny_builtinsFor (m := X.mg)
      (by rw [J.ok.glob]; exact ((J.mod.glob.keeps J.bk).push ob).extBut ext tabB.gP)
      f1 f2 (old3 _ _ f4 (J.bk _ _ f5)) f6 f7 f8 ?_
    refine ⟨r1.heap.objs.size, [r1.heap.objs.size], [r1.heap.objs.size], a.cps.size, SignAt a, Stp, (fun _ => true),
      (fun i z => ∃ cc, a.cps[i]? = some cc ∧ z = .bool (pb b cc)), rfl, Wk, ?_, ?_, limN.extBut ext statP, ?_, ?_, ?_⟩
    · refine (Wk X.A room.hd).frame _ _ _ hst0 fun b' mem' u' e' => ext b' u' (fun z => ?_) e'
      rcases List.mem_cons.mp mem' with z2 | z2
      · exact Nat.ne_of_lt ltP (z.symm.trans z2)
      · cases z2
    · intro b' mem'
      rcases List.mem_cons.mp mem' with z | z
      · rw [z]
        exact Nat.lt_of_lt_of_le (by rw [szN]; exact Nat.lt_succ_self _) sz3
      · cases z
    · intro mem'
      rcases List.mem_cons.mp mem' with z | z
      · exact Nat.ne_of_lt statL z
      · cases z
    · intro hr hhr
      refine ⟨fun A2 E2 i v' s2 m2 _ _ _ _ _ => ?_, fun A2 E2 i v' s2 m2 _ at_ _ ns2 m2x keep2 => ?_⟩
      · simp only [List.forIn_nil]
        exact wpAny_pure ⟨rfl, GxR.keeps_refl _⟩
      · obtain ⟨cc, tk', hcc, rfl⟩ := at_
        have q2 : s2.heap.get? q = some oq := by
          refine keep2 q (List.mem_range.mpr ?_) ?_ oq (hhr q oq cell3)
          · exact Nat.lt_of_lt_of_le ltq (Nat.le_trans (by rw [szN]; exact Nat.le_succ _) sz3)
          · intro z
            rcases List.mem_cons.mp z with z | z
            · exact Nat.ne_of_lt ltq z
            · cases z
        exact wpAny_mono (el_ b _ A2 E2 cc tk' tkb s2 m2 q rfl (hclo _ _ hq1) ⟨oq, q2, hqd⟩ ns2 m2x)
          (fun z s3 r => ⟨⟨cc, hcc, r.1⟩, r.2⟩) fun _ _ e => e
    · intro g h5 n5 gs bare5 above5 sz5 keep5 W5 gat
      simp only [GxR.passing_true, List.length_range] at W5
      refine fin a b H1 g _ want ⟨_, _, _, _, _, W5.in4_1, gat, ?_, fun s9 mv => ?_⟩
      · intro i' z' sj Qj Ej hz' hQj
        obtain ⟨i, hi, cc, hcc, rfl⟩ := hz'
        obtain ⟨_, ei⟩ := List.getElem?_eq_some_iff.mp hi
        rw [List.getElem_range] at ei
        subst ei
        have at9 : a.cps.toList[i']? = some cc := by rw [Array.getElem?_toList]; exact hcc
        have hQ2 : Qj (GxR.trF (pb b) a.cps.toList i') sj := hQj
        rw [GxR.trF_some at9] at hQ2
        exact wpAny_truthy_bool hQ2
      · obtain ⟨more, em⟩ := grew
        have apart : ∀ b' u', r1.heap.get? b' = some u' → b' ∉ h3.objs.size :: [r1.heap.objs.size] := fun b' u' e' mem' => by
          have lt' := Heap.lt_size e'
          have sz9 : r1.heap.objs.size + 1 ≤ h3.objs.size := szN ▸ sz3
          rcases List.mem_cons.mp mem' with z | z
          · rw [z] at lt'
            exact absurd (Nat.lt_trans lt' (Nat.lt_of_lt_of_le (Nat.lt_succ_self _) sz9)) (Nat.lt_irrefl _)
          · rcases List.mem_cons.mp z with z | z
            · rw [z] at lt'
              exact Nat.lt_irrefl _ lt'
            · cases z
        have J9 := GxR.inv_tab (more := more) (h' := s9.heap) (g' := s9.gens) (d' := s9.drawn) (t' := s9.toks) J hTP
          (fun b' u' ne e' => mv.heap b' u' (apart b' u' e') (keep5 b' u' (old3 b' u' ne e')))
          (by rw [← em]; exact mv.heap P _ (apart P _ tabS) (keep5 P _ tab3)) (AllBare.movedS (J.bare.push bare5) mv)
        rw [GxR.sh_eta r1 s9 mv.os] at J9
        exact ⟨upd H1 P (.tbl (tb ++ more)), ⟨⟨tb ++ more, upd_same, by rw [← em]; exact tri3⟩, fun b' ne => upd_ne ne⟩, J9⟩
  cases seek : codeAmong gpos tb.toList with
  | none =>
    refine wpAny_genexprCodeX code_ (hdN.code tabN htri) (hdN.tab tabN) seek fun c' h' n' ext ge lt hco' _ htab' _ => ?_
    obtain ⟨_, _, _, _, _, _, _, _, _, _, _, _, _, _, _, _, _, _, _, tri', _⟩ := hco'
    exact onward _ h' n' _ ext (Nat.le_trans ge (Nat.le_of_lt lt)) htab'.2 ⟨_, rfl⟩ tri'
  | some cv =>
    refine wpAny_genexprCode_hit code_ (hdN.code tabN htri) seek ?_
    exact onward cv (r1.heap.push ob) r1.toks tb (Heap.ExtBut.refl _ _) (Nat.le_refl _) tabN ⟨#[], by simp⟩ htri

/-- all(elt for x in e), e a text, one captured text -/
def tAllC (P : Addr) (j : Nat) (pb : Str → Nat → Bool) (te : TE) : TE := fun σ H Q =>
  te σ H fun v H1 => ∃ a b : Str, v = .str a ∧ σ[j]? = some (some (.str b)) ∧ GxR.TabG H1 P ∧
    ∀ H2, GxR.Tabbed P H1 H2 → Q (.bl (a.cps.toList.all (pb b))) H2
theorem pe_allC {c P : Addr} {elt iter : Expr} {x y : Str} {px p pos gpos : Pos} {scope : Scope} {pb : Str → Nat → Bool}
    {te : TE} {k j : Nat} (room : Room k X.A) (hg : Gl X "all") (hm : X.mg "all" = none)
    (hb : bootBuiltins "all" = some (.builtin "all")) (tabB : GxR.TabB X.base X.mg c P) (code_ : X.env.code = .ref c)
    (S : GxR.GenS X.env scope x) (it_ : PE X iter te) (el_ : ∀ b, EltC X.prog X.w scope x y elt b (pb b))
    (hj : X.N[j]? = some y) (hcel : X.env.scope.names.lookup y = some .cell)
    (hclo : ∀ cells q, cells.lookup y = some q → (cloFrom cells scope.names []).lookup y = some q)
    (fold_ : ∀ v, genFold iter X.env v = pure v)
    (he : starEach [.GeneratorExp elt [⟨.Name x px, iter, [], 0⟩] scope gpos] X.env =
      (false, eval (.GeneratorExp elt [⟨.Name x px, iter, [], 0⟩] scope gpos) X.env) :: starEach [] X.env := by rfl) :
    PE X (.Call (.Name "all" p) [.GeneratorExp elt [⟨.Name x px, iter, [], 0⟩] scope gpos] [] pos) (tAllC P j pb te) := by
  refine ⟨fun pins s σ H Q I h => ?_⟩
  refine wpAny_Call_Name_kw (ld_blt I hg hm hb ?_)
  refine PyProof.Rows.callWith_builtin1 ?_ he (by rfl)
  rw [he]
  refine (show wpAny _ _ (spliced ((false, eval (.GeneratorExp elt [⟨.Name x px, iter, [], 0⟩] scope gpos) X.env) ::
    backTo pos (starEach [] X.env))) _ _ s from ?_)
  refine Calls.spliced_cons (gen_cap (R := fun a b H1 => ∀ H2, GxR.Tabbed P H1 H2 → Q (.bl (a.cps.toList.all (pb b))) H2)
    room tabB code_ S it_ el_ hj hcel hclo fold_ I h fun a b H1 g s5 hR rd => ?_)
  obtain ⟨fp, wr, G, F, Stg, Wg, hst, htr, back⟩ := rd
  refine Calls.spliced_nil ?_
  refine call_all_walkS (Wg.self 0 _ _ _ hst ⟨g, fp, wr, G, _, F, Stg, _, rfl, Wg, hst, htr, fun s9 mv => ?_⟩)
  obtain ⟨H2, tbd, J⟩ := back s9 mv
  refine ⟨.bl _, H2, J, rfl, ?_⟩
  rw [GxR.all_signs a (pb b)]
  exact hR H2 tbd
end
end LL
namespace LL
open PySem PySem.Spec PyProof.Rows L2
/-! ### rows of stretches, as sets of numbers -/
abbrev Pr := Nat × Nat
def has (r : List Pr) (n : Nat) : Bool := r.any fun z => decide (z.1 ≤ n) && decide (n < z.2)
def TidyFrom : Nat → List Pr → Prop
  | _, [] => True
  | b, z :: r => b ≤ z.1 ∧ z.1 < z.2 ∧ z.2 ≤ 400 ∧ TidyFrom (z.2 + 1) r
instance : ∀ (r : List Pr) (b : Nat), Decidable (TidyFrom b r)
  | [], _ => isTrue trivial
  | z :: r, b =>
    have := instDecidableTidyFrom r (z.2 + 1)
    by unfold TidyFrom; infer_instance
def Tidy (r : List Pr) : Prop := TidyFrom 0 r
instance (r : List Pr) : Decidable (Tidy r) := by unfold Tidy; infer_instance
/-- each a stretch -/
def Valid (r : List Pr) : Prop := ∀ z ∈ r, z.1 < z.2 ∧ z.2 ≤ 400
theorem has_nil (n : Nat) : has [] n = false := rfl
theorem has_cons (z : Pr) (r : List Pr) (n : Nat) : has (z :: r) n = ((decide (z.1 ≤ n) && decide (n < z.2)) || has r n) := rfl
theorem has_app (r q : List Pr) (n : Nat) : has (r ++ q) n = (has r n || has q n) := List.any_append
theorem has_one (b e n : Nat) : has [(b, e)] n = (decide (b ≤ n) && decide (n < e)) := by rw [has_cons, has_nil, Bool.or_false]
theorem TidyFrom.valid : ∀ {r : List Pr} {b : Nat}, TidyFrom b r → Valid r
  | [], _, _, _, h => nomatch h
  | z :: r, b, ⟨_, h2, h3, h4⟩, y, h => by
    rcases List.mem_cons.mp h with rfl | h
    · exact ⟨h2, h3⟩
    · exact h4.valid y h
theorem TidyFrom.weak : ∀ {r : List Pr} {b c : Nat}, c ≤ b → TidyFrom b r → TidyFrom c r
  | [], _, _, _, _ => trivial
  | _ :: _, _, _, l, ⟨h1, h2⟩ => ⟨Nat.le_trans l h1, h2⟩
theorem TidyFrom.low : ∀ {r : List Pr} {b n : Nat}, TidyFrom b r → has r n = true → b ≤ n ∧ n < 400
  | [], _, _, _, h => nomatch h
  | z :: r, b, n, ⟨h1, h2, h3, h4⟩, h => by
    rw [has_cons] at h
    rcases Bool.or_eq_true_iff.mp h with h | h
    · have h := Bool.and_eq_true_iff.mp h
      have l := of_decide_eq_true h.1
      have u := of_decide_eq_true h.2
      omega
    · have := h4.low h
      omega
theorem TidyFrom.none {r : List Pr} {b n : Nat} (h : TidyFrom b r) (l : n < b) : has r n = false := by
  cases q : has r n with
  | false => rfl
  | true =>
    have := (h.low q).1
    omega
theorem has_lt {r : List Pr} {n : Nat} (h : Valid r) (q : has r n = true) : n < 400 := by
  obtain ⟨z, hz, q⟩ := List.any_eq_true.mp q
  have q := Bool.and_eq_true_iff.mp q
  have := of_decide_eq_true q.2
  have := (h z hz).2
  omega
/-- two tidy rows of the same numbers are one -/
theorem tidy_one : ∀ {r q : List Pr} {b c : Nat}, TidyFrom b r → TidyFrom c q → (∀ n, has r n = has q n) → r = q
  | [], [], _, _, _, _, _ => rfl
  | [], z :: q, _, c, _, ⟨h1, h2, _, _⟩, e => by
    have := e z.1
    rw [has_nil, has_cons, decide_eq_true (Nat.le_refl z.1), decide_eq_true h2] at this
    cases this
  | z :: r, [], b, _, ⟨h1, h2, _, _⟩, _, e => by
    have := e z.1
    rw [has_nil, has_cons, decide_eq_true (Nat.le_refl z.1), decide_eq_true h2] at this
    cases this
  | z :: r, y :: q, b, c, ⟨h1, h2, h3, h4⟩, ⟨g1, g2, g3, g4⟩, e => by
    have inZ : ∀ n, z.1 ≤ n → n < z.2 → has (z :: r) n = true := fun n l u => by rw [has_cons, decide_eq_true l, decide_eq_true u]; rfl
    have inY : ∀ n, y.1 ≤ n → n < y.2 → has (y :: q) n = true := fun n l u => by rw [has_cons, decide_eq_true l, decide_eq_true u]; rfl
    have lowZ : ∀ n, n < z.1 → has (z :: r) n = false := fun n l => TidyFrom.none (b := z.1) (r := z :: r) ⟨Nat.le_refl _, h2, h3, h4⟩ l
    have lowY : ∀ n, n < y.1 → has (y :: q) n = false := fun n l => TidyFrom.none (b := y.1) (r := y :: q) ⟨Nat.le_refl _, g2, g3, g4⟩ l
    have e1 : z.1 = y.1 := by
      rcases Nat.lt_trichotomy z.1 y.1 with l | l | l
      · have a := inZ z.1 (Nat.le_refl _) h2
        rw [e, lowY _ l] at a
        cases a
      · exact l
      · have a := inY y.1 (Nat.le_refl _) g2
        rw [← e, lowZ _ l] at a
        cases a
    have outZ : has (z :: r) z.2 = false := by
      rw [has_cons, decide_eq_false (Nat.lt_irrefl _), Bool.and_false, Bool.false_or]
      exact h4.none (Nat.lt_succ_self _)
    have outY : has (y :: q) y.2 = false := by
      rw [has_cons, decide_eq_false (Nat.lt_irrefl _), Bool.and_false, Bool.false_or]
      exact g4.none (Nat.lt_succ_self _)
    have e2 : z.2 = y.2 := by
      rcases Nat.lt_trichotomy z.2 y.2 with l | l | l
      · have a := inY z.2 (by omega) l
        rw [← e, outZ] at a
        cases a
      · exact l
      · have a := inZ y.2 (by omega) l
        rw [e, outY] at a
        cases a
    have e3 : z = y := Prod.ext e1 e2
    subst e3
    have e4 : r = q := tidy_one h4 g4 fun n => by
      by_cases l : n < z.2 + 1
      · rw [h4.none l, g4.none l]
      · have a := e n
        rw [has_cons, has_cons, decide_eq_false (show ¬ n < z.2 by omega), Bool.and_false, Bool.false_or, Bool.false_or] at a
        exact a
    rw [e4]
theorem tidy_eq {r q : List Pr} (h : Tidy r) (g : Tidy q) (e : ∀ n, has r n = has q n) : r = q := tidy_one h g e
theorem TidyFrom.app : ∀ {r : List Pr} {b x y : Nat}, TidyFrom b r → (∀ z ∈ r, z.2 < x) → b ≤ x → x < y → y ≤ 400 → TidyFrom b (r ++ [(x, y)])
  | [], _, _, _, _, _, l, l2, l3 => ⟨l, l2, l3, trivial⟩
  | z :: r, b, x, y, ⟨h1, h2, h3, h4⟩, h, l, l2, l3 => ⟨h1, h2, h3, h4.app (fun w hw => h w (List.mem_cons_of_mem _ hw)) (h z List.mem_cons_self) l2 l3⟩
theorem Tidy.app {r : List Pr} {x y : Nat} (h : Tidy r) (l : ∀ z ∈ r, z.2 < x) (l2 : x < y) (l3 : y ≤ 400) : Tidy (r ++ [(x, y)]) := TidyFrom.app h l (Nat.zero_le _) l2 l3
/-- the last stretch goes one further -/
theorem TidyFrom.grow : ∀ {r : List Pr} {b x y : Nat}, TidyFrom b (r ++ [(x, y)]) → y + 1 ≤ 400 → TidyFrom b (r ++ [(x, y + 1)])
  | [], _, _, _, ⟨h1, h2, _, _⟩, l => ⟨h1, Nat.lt_succ_of_lt h2, l, trivial⟩
  | z :: r, b, x, y, ⟨h1, h2, h3, h4⟩, l => ⟨h1, h2, h3, TidyFrom.grow (r := r) h4 l⟩
theorem TidyFrom.len : ∀ {r : List Pr} {b : Nat}, TidyFrom b r → 2 * r.length + b ≤ 402 ∨ r = []
  | [], _, _ => .inr rfl
  | z :: r, b, ⟨h1, h2, h3, h4⟩ => by
    rcases h4.len with k | rfl
    · left
      rw [List.length_cons]
      omega
    · left
      rw [List.length_cons, List.length_nil]
      omega
theorem Tidy.len {r : List Pr} (h : Tidy r) : r.length ≤ 201 := by
  rcases TidyFrom.len h with k | rfl
  · omega
  · exact Nat.zero_le _
/-! ### the same as whole numbers -/
def span (z : Pr) : Nat := 2 ^ z.2 - 2 ^ z.1
theorem span_bit {z : Pr} (h : z.1 ≤ z.2) (n : Nat) : (span z).testBit n = (decide (z.1 ≤ n) && decide (n < z.2)) := by
  obtain ⟨b, e⟩ := z
  obtain ⟨k, rfl⟩ := Nat.exists_eq_add_of_le (show b ≤ e from h)
  have e1 : span (b, b + k) = 2 ^ b * (2 ^ k - 1) := by
    show 2 ^ (b + k) - 2 ^ b = _
    rw [Nat.pow_add, Nat.mul_sub, Nat.mul_one]
  rw [e1, Nat.testBit_two_pow_mul, Nat.testBit_two_pow_sub_one]
  by_cases l : b ≤ n
  · rw [decide_eq_true (show n ≥ b from l), Bool.true_and, Bool.true_and, decide_eq_decide]
    show n - b < k ↔ n < b + k
    omega
  · rw [decide_eq_false (show ¬ n ≥ b from l)]
    rfl
def maskN (r : List Pr) : Nat := r.foldl (fun m z => m ||| span z) 0
theorem mask_fold : ∀ (r : List Pr) (m n : Nat), Valid r → (r.foldl (fun m z => m ||| span z) m).testBit n = (m.testBit n || has r n)
  | [], m, n, _ => by rw [has_nil, Bool.or_false]; rfl
  | z :: r, m, n, h => by
    rw [List.foldl_cons, mask_fold r _ n (fun y hy => h y (List.mem_cons_of_mem _ hy)), Nat.testBit_or, span_bit (Nat.le_of_lt (h z List.mem_cons_self).1), has_cons, Bool.or_assoc]
theorem mask_bit {r : List Pr} (h : Valid r) (n : Nat) : (maskN r).testBit n = has r n := by
  unfold maskN
  rw [mask_fold r 0 n h, Nat.zero_testBit, Bool.false_or]
theorem lt_of_bits {m k : Nat} (h : ∀ n, m.testBit n = true → n < k) : m < 2 ^ k := by
  apply Nat.lt_pow_two_of_testBit
  intro i hi
  cases q : m.testBit i with
  | false => rfl
  | true =>
    have := h i q
    omega
theorem mask_lt {r : List Pr} (h : Valid r) : maskN r < 2 ^ 400 := lt_of_bits fun n q => by
  rw [mask_bit h] at q
  exact has_lt h q
/-! ### the lowest figure -/
theorem odd_part : ∀ a : Nat, 0 < a → ∃ k j : Nat, a = 2 ^ k * (2 * j + 1) := by
  intro a
  induction a using Nat.strongRecOn with
  | ind a ih =>
    intro h
    by_cases o : a % 2 = 1
    · exact ⟨0, a / 2, by rw [Nat.pow_zero, Nat.one_mul]; omega⟩
    · obtain ⟨k, j, e⟩ := ih (a / 2) (by omega) (by omega)
      refine ⟨k + 1, j, ?_⟩
      rw [Nat.pow_succ, Nat.mul_comm (2 ^ k) 2, Nat.mul_assoc, ← e]
      omega
theorem and_pred (k j : Nat) : (2 ^ k * (2 * j + 1)) &&& (2 ^ k * (2 * j + 1) - 1) = 2 ^ k * (2 * j) := by
  have p := Nat.two_pow_pos k
  have e1 : 2 ^ k * (2 * j + 1) - 1 = 2 ^ k * (2 * j) + (2 ^ k - 1) := by
    rw [Nat.mul_add, Nat.mul_one]
    omega
  apply Nat.eq_of_testBit_eq
  intro n
  rw [Nat.testBit_and, Nat.testBit_two_pow_mul, Nat.testBit_two_pow_mul, e1, Nat.testBit_two_pow_mul_add _ (by omega), Nat.testBit_two_pow_sub_one]
  by_cases l : n < k
  · rw [decide_eq_false (show ¬ n ≥ k by omega)]
    rfl
  · rw [if_neg l, decide_eq_true (show n ≥ k by omega), Bool.true_and, Bool.true_and]
    cases q : n - k with
    | zero =>
      rw [Nat.testBit_zero, Nat.testBit_zero]
      have : decide (2 * j % 2 = 1) = false := decide_eq_false (by omega)
      rw [this, Bool.and_false]
    | succ i =>
      rw [Nat.testBit_succ, Nat.testBit_succ]
      have : (2 * j + 1) / 2 = 2 * j / 2 := by omega
      rw [this, Bool.and_self]
theorem bits_low (k j : Nat) : Builtin.bitAnd ((2 ^ k * (2 * j + 1) : Nat) : Int) (-((2 ^ k * (2 * j + 1) : Nat) : Int)) = ((2 ^ k : Nat) : Int) ∧
    Builtin.bitAnd (-((2 ^ k * (2 * j + 1) : Nat) : Int)) ((2 ^ k * (2 * j + 1) : Nat) : Int) = ((2 ^ k : Nat) : Int) := by
  have p := Nat.two_pow_pos k
  generalize ha : 2 ^ k * (2 * j + 1) = a
  have a0 : 0 < a := by rw [← ha]; exact Nat.mul_pos p (by omega)
  have low : a &&& (a - 1) = 2 ^ k * (2 * j) := by rw [← ha]; exact and_pred k j
  have sub : a = 2 ^ k * (2 * j) + 2 ^ k := by rw [← ha, Nat.mul_add, Nat.mul_one]
  have h1 : decide ((0 : Int) ≤ (a : Int)) = true := decide_eq_true (Int.natCast_nonneg a)
  have h2 : decide ((0 : Int) ≤ -(a : Int)) = false := decide_eq_false (by omega)
  have h3 : (Builtin.bitNot (-(a : Int))).toNat = a - 1 := by
    show (-(-(a : Int)) - 1).toNat = a - 1
    omega
  constructor
  · unfold Builtin.bitAnd
    simp only [h1, h2]
    rw [h3, Int.toNat_natCast, low]
    omega
  · unfold Builtin.bitAnd
    simp only [h1, h2]
    rw [h3, Int.toNat_natCast, low]
    omega
theorem bits_pow (k : Nat) : Builtin.Int.intBits ((2 ^ k : Nat) : Int) = k + 1 := by
  unfold Builtin.Int.intBits
  have p := Nat.two_pow_pos k
  have ne : ¬ (((2 ^ k : Nat) : Int) == 0) = true := by
    generalize 2 ^ k = x at p ⊢
    simp
    omega
  rw [if_neg ne]
  rw [Int.natAbs_natCast, Nat.log2_two_pow]
/-- i's lowest figure is worth 2 ^ k -/
def Low (i : Int) (k : Nat) : Prop := ∃ j : Nat, i = ((2 ^ k * (2 * j + 1) : Nat) : Int) ∨ i = -((2 ^ k * (2 * j + 1) : Nat) : Int)
theorem Low.bits {i : Int} {k : Nat} (h : Low i k) : Builtin.bitAnd i (-i) = ((2 ^ k : Nat) : Int) := by
  obtain ⟨j, rfl | rfl⟩ := h
  · exact (bits_low k j).1
  · rw [Int.neg_neg]
    exact (bits_low k j).2
/-- the first number of a mask, from e on -/
theorem low_of {m e : Nat} (h : m / 2 ^ e ≠ 0) : ∃ k, Low ((m / 2 ^ e : Nat) : Int) k ∧ m.testBit (e + k) = true ∧ ∀ n, e ≤ n → n < e + k → m.testBit n = false := by
  obtain ⟨k, j, q⟩ := odd_part (m / 2 ^ e) (Nat.pos_of_ne_zero h)
  have bit : ∀ n, m.testBit (e + n) = (2 ^ k * (2 * j + 1)).testBit n := fun n => by
    rw [← q, Nat.testBit_div_two_pow, Nat.add_comm]
  refine ⟨k, ⟨j, .inl (by rw [q])⟩, ?_, fun n l u => ?_⟩
  · rw [bit, Nat.testBit_two_pow_mul, Nat.sub_self, Nat.testBit_zero, decide_eq_true (Nat.le_refl k), decide_eq_true (by omega)]
    rfl
  · obtain ⟨d, rfl⟩ := Nat.exists_eq_add_of_le l
    rw [bit, Nat.testBit_two_pow_mul, decide_eq_false (by omega)]
    rfl
/-- how far a mask's numbers go on from b -/
theorem low_not {m b : Nat} (h : m.testBit b = true) : ∃ k, 0 < k ∧ Low (Builtin.bitNot ((m / 2 ^ b : Nat) : Int)) k ∧ m.testBit (b + k) = false ∧ ∀ n, b ≤ n → n < b + k → m.testBit n = true := by
  obtain ⟨k, j, q⟩ := odd_part (m / 2 ^ b + 1) (Nat.succ_pos _)
  have p := Nat.two_pow_pos k
  have q1 : m / 2 ^ b = 2 ^ k * (2 * j) + (2 ^ k - 1) := by
    rw [Nat.mul_add, Nat.mul_one] at q
    omega
  have bit : ∀ n, m.testBit (b + n) = if n < k then true else (2 * j).testBit (n - k) := fun n => by
    rw [Nat.add_comm, ← Nat.testBit_div_two_pow, q1, Nat.testBit_two_pow_mul_add _ (by omega), Nat.testBit_two_pow_sub_one]
    split
    · rename_i l
      exact decide_eq_true l
    · rfl
  have k0 : 0 < k := by
    have := bit 0
    rw [Nat.add_zero, h] at this
    by_cases z : 0 < k
    · exact z
    · rw [if_neg z, show 0 - k = 0 by omega, Nat.testBit_zero, decide_eq_false (by omega)] at this
      cases this
  refine ⟨k, k0, ⟨j, .inr ?_⟩, ?_, fun n l u => ?_⟩
  · rw [← q]
    show -((m / 2 ^ b : Nat) : Int) - 1 = _
    omega
  · rw [bit, if_neg (Nat.lt_irrefl k), Nat.sub_self, Nat.testBit_zero]
    exact decide_eq_false (by omega)
  · obtain ⟨d, rfl⟩ := Nat.exists_eq_add_of_le l
    rw [bit, if_pos (by omega)]
theorem no_more {m e : Nat} (h : m / 2 ^ e = 0) : ∀ n, e ≤ n → m.testBit n = false := fun n l => by
  obtain ⟨d, rfl⟩ := Nat.exists_eq_add_of_le l
  rw [Nat.add_comm, ← Nat.testBit_div_two_pow, h, Nat.zero_testBit]
theorem or_masks (a b : Nat) : Builtin.bitOr (a : Int) (b : Int) = ((a ||| b : Nat) : Int) := by
  rw [bitOr_nn (Int.natCast_nonneg a) (Int.natCast_nonneg b), Int.toNat_natCast, Int.toNat_natCast]
theorem and_masks (a b : Nat) : Builtin.bitAnd (a : Int) (b : Int) = ((a &&& b : Nat) : Int) := by
  unfold Builtin.bitAnd
  simp only [decide_eq_true (Int.natCast_nonneg a), decide_eq_true (Int.natCast_nonneg b)]
  rw [Int.toNat_natCast, Int.toNat_natCast]
theorem less_masks (a b : Nat) : Builtin.bitAnd (a : Int) (Builtin.bitNot (b : Int)) = ((a - (a &&& b) : Nat) : Int) := by
  have e : Builtin.bitNot (Builtin.bitNot (b : Int)) = (b : Int) := by
    show -(-(b : Int) - 1) - 1 = b
    omega
  have n : ¬ (0 : Int) ≤ Builtin.bitNot (b : Int) := by
    show ¬ (0 : Int) ≤ -(b : Int) - 1
    omega
  unfold Builtin.bitAnd
  simp only [decide_eq_true (Int.natCast_nonneg a), decide_eq_false n]
  rw [e, Int.toNat_natCast, Int.toNat_natCast]
  have le : a &&& b ≤ a := Nat.and_le_left
  omega
theorem less_bit (n : Nat) : ∀ a b : Nat, (a - (a &&& b)).testBit n = (a.testBit n && !b.testBit n) := by
  induction n with
  | zero =>
    intro a b
    have le : a &&& b ≤ a := Nat.and_le_left
    have lo : ((a &&& b) % 2 = 1) ↔ (a % 2 = 1 ∧ b % 2 = 1) := by
      have := congrArg (fun x : Bool => x = true) (Nat.testBit_and a b 0)
      simpa [Nat.testBit_zero] using this
    rw [Nat.testBit_zero, Nat.testBit_zero, Nat.testBit_zero]
    rcases Nat.mod_two_eq_zero_or_one a with ha | ha <;> rcases Nat.mod_two_eq_zero_or_one b with hb | hb <;>
      rcases Nat.mod_two_eq_zero_or_one (a &&& b) with hc | hc <;>
      first
        | (exfalso; rw [ha, hb, hc] at lo; revert lo; decide)
        | (rw [show (a - (a &&& b)) % 2 = (a % 2 + (a &&& b) % 2) % 2 by omega, ha, hb, hc]; decide)
  | succ n ih =>
    intro a b
    have le : a &&& b ≤ a := Nat.and_le_left
    have lo : ((a &&& b) % 2 = 1) ↔ (a % 2 = 1 ∧ b % 2 = 1) := by
      have := congrArg (fun x : Bool => x = true) (Nat.testBit_and a b 0)
      simpa [Nat.testBit_zero] using this
    have hi : (a &&& b) / 2 = a / 2 &&& b / 2 := Nat.and_div_two
    have le2 : a / 2 &&& b / 2 ≤ a / 2 := Nat.and_le_left
    rw [Nat.testBit_succ, Nat.testBit_succ, Nat.testBit_succ, ← ih]
    congr 1
    omega
end LL
namespace LL
open PySem PySem.Spec PyProof.Rows L2
/-- a def of the top: where it stands and how it is called -/
structure Dn (K : PySem.W.Frag) (mg : Str → Option Value) (x : Str) (st : Stmt) (ps : List Str) where
  f : Addr
  fd : FuncData
  m : mg x = some (.ref f)
  F : Fun K x x st f fd
  b : Binds K fd ps []

theorem pcall {X : Cx} {x : Str} {st : Stmt} {ps : List Str} {sp : Sp} {j k : Nat} {e : Expr} {es : List Expr} {t : TA} {p pos : Pos}
    (D : Dn X.K X.mg x st ps) (G : FnOk X.prog X.w X.K X.mg X.base CX0 j D.f D.fd ps sp) (hr : Room k X.A) (hjk : j ≤ k)
    (hg : Gl X x) (ha : PA X (e :: es) t) (hd : (x == ("__debug__" : Str)) = false := by decide)
    (he : starEach (e :: es) X.env = (false, eval e X.env) :: starEach es X.env := by rfl)
    (hp : (backTo pos (starEach es X.env)).any (·.1) = false := by rfl) :
    PE X (.Call (.Name x p) (e :: es) [] pos) (tCall sp [] E0 t) :=
  pe_call G (hr.mono hjk) hg D.m D.F.kp D.b .nil pass0 ha hd he hp
theorem pcall0 {X : Cx} {x : Str} {st : Stmt} {ps : List Str} {sp : Sp} {j k : Nat} {p pos : Pos}
    (D : Dn X.K X.mg x st ps) (G : FnOk X.prog X.w X.K X.mg X.base CX0 j D.f D.fd ps sp) (hr : Room k X.A) (hjk : j ≤ k)
    (hg : Gl X x) (hd : (x == ("__debug__" : Str)) = false := by decide) :
    PE X (.Call (.Name x p) [] [] pos) (tCall sp [] E0 tNil) :=
  pe_call0 G (hr.mono hjk) hg D.m D.F.kp D.b .nil pass0 hd

/-- what may be asked of: None, a bool, an int, a text, a list, a tuple, a dict -/
inductive Thing (K : PySem.W.Frag) (H : Hp) : V → Prop
  | non : Thing K H .non
  | bl (b : Bool) : Thing K H (.bl b)
  | int (i : Int) : Thing K H (.int i)
  | str (z : Str) : Thing K H (.str z)
  | lst {a : Addr} (h : TyX K H (.ref a) (.type "list")) : Thing K H (.ref a)
  | tup {a : Addr} (h : TyX K H (.ref a) (.type "tuple")) : Thing K H (.ref a)
  | dct {a : Addr} (h : TyX K H (.ref a) (.type "dict")) : Thing K H (.ref a)
def isInt : V → Bool
  | .int _ => true
  | _ => false
def isIntB : V → Bool
  | .int _ => true
  | .bl _ => true
  | _ => false
def isBl : V → Bool
  | .bl _ => true
  | _ => false
def isStr : V → Bool
  | .str _ => true
  | _ => false
/-- isinstance(x, T) for such a thing -/
theorem isi_int {K : PySem.W.Frag} {H : Hp} {x : V} {Q : VK} (h : Thing K H x) (q : Q (.bl (isIntB x)) H) : rIsi K [x, .ty "int"] H Q := by
  cases h with
  | non => exact ⟨_, _, _, _, _, rfl, .ty _, .base .non, kit_ty (r := false) (by decide +kernel), q⟩
  | bl b => exact ⟨_, _, _, _, _, rfl, .ty _, .base (.bl b), kit_ty (r := true) (by decide +kernel), q⟩
  | int i => exact ⟨_, _, _, _, _, rfl, .ty _, .base (.int i), kit_ty (r := true) (by decide +kernel), q⟩
  | str z => exact ⟨_, _, _, _, _, rfl, .ty _, .base (.str z), kit_ty (r := false) (by decide +kernel), q⟩
  | lst h => exact ⟨_, _, _, _, _, rfl, .ty _, h, kit_ty (r := false) (by decide +kernel), q⟩
  | tup h => exact ⟨_, _, _, _, _, rfl, .ty _, h, kit_ty (r := false) (by decide +kernel), q⟩
  | dct h => exact ⟨_, _, _, _, _, rfl, .ty _, h, kit_ty (r := false) (by decide +kernel), q⟩
theorem isi_bool {K : PySem.W.Frag} {H : Hp} {x : V} {Q : VK} (h : Thing K H x) (q : Q (.bl (isBl x)) H) : rIsi K [x, .ty "bool"] H Q := by
  cases h with
  | non => exact ⟨_, _, _, _, _, rfl, .ty _, .base .non, kit_ty (r := false) (by decide +kernel), q⟩
  | bl b => exact ⟨_, _, _, _, _, rfl, .ty _, .base (.bl b), kit_ty (r := true) (by decide +kernel), q⟩
  | int i => exact ⟨_, _, _, _, _, rfl, .ty _, .base (.int i), kit_ty (r := false) (by decide +kernel), q⟩
  | str z => exact ⟨_, _, _, _, _, rfl, .ty _, .base (.str z), kit_ty (r := false) (by decide +kernel), q⟩
  | lst h => exact ⟨_, _, _, _, _, rfl, .ty _, h, kit_ty (r := false) (by decide +kernel), q⟩
  | tup h => exact ⟨_, _, _, _, _, rfl, .ty _, h, kit_ty (r := false) (by decide +kernel), q⟩
  | dct h => exact ⟨_, _, _, _, _, rfl, .ty _, h, kit_ty (r := false) (by decide +kernel), q⟩
theorem isi_str {K : PySem.W.Frag} {H : Hp} {x : V} {Q : VK} (h : Thing K H x) (q : Q (.bl (isStr x)) H) : rIsi K [x, .ty "str"] H Q := by
  cases h with
  | non => exact ⟨_, _, _, _, _, rfl, .ty _, .base .non, kit_ty (r := false) (by decide +kernel), q⟩
  | bl b => exact ⟨_, _, _, _, _, rfl, .ty _, .base (.bl b), kit_ty (r := false) (by decide +kernel), q⟩
  | int i => exact ⟨_, _, _, _, _, rfl, .ty _, .base (.int i), kit_ty (r := false) (by decide +kernel), q⟩
  | str z => exact ⟨_, _, _, _, _, rfl, .ty _, .base (.str z), kit_ty (r := true) (by decide +kernel), q⟩
  | lst h => exact ⟨_, _, _, _, _, rfl, .ty _, h, kit_ty (r := false) (by decide +kernel), q⟩
  | tup h => exact ⟨_, _, _, _, _, rfl, .ty _, h, kit_ty (r := false) (by decide +kernel), q⟩
  | dct h => exact ⟨_, _, _, _, _, rfl, .ty _, h, kit_ty (r := false) (by decide +kernel), q⟩

section
variable {X : Cx}
theorem call_is_int : CallR X (.builtin "isinstance") (fun xs H Q => ∃ x, xs = [x, .ty "int"] ∧ Thing X.K H x ∧ Q (.bl (isIntB x)) H) := by
  intro pins s σ H xs us Q I r ⟨x, e, th, q⟩
  subst e
  exact call_isi pins s σ H _ us Q I r (isi_int th q)
theorem call_is_bool : CallR X (.builtin "isinstance") (fun xs H Q => ∃ x, xs = [x, .ty "bool"] ∧ Thing X.K H x ∧ Q (.bl (isBl x)) H) := by
  intro pins s σ H xs us Q I r ⟨x, e, th, q⟩
  subst e
  exact call_isi pins s σ H _ us Q I r (isi_bool th q)
theorem call_is_str : CallR X (.builtin "isinstance") (fun xs H Q => ∃ x, xs = [x, .ty "str"] ∧ Thing X.K H x ∧ Q (.bl (isStr x)) H) := by
  intro pins s σ H xs us Q I r ⟨x, e, th, q⟩
  subst e
  exact call_isi pins s σ H _ us Q I r (isi_str th q)
end

/-- a def whose code object is known -/
theorem okC {P : Program} {w : World} {K : PySem.W.Frag} {mg : Str → Option Value} {base : Heap} {x : Str} {st : Stmt} {f c : Addr}
    {fd : FuncData} {N ps : List Str} {k : Nat} {sp : Sp} (F : Fun K x x st f fd) (hc : fd.code = .ref c) (S : FnScope N ps (defScope st))
    (len : ∀ vs H Q E, sp vs H Q E → vs.length = ps.length)
    (body : ∀ (A : Around) (outer : List Env) (s : Shared) (H : Hp) (vs : List V) (Q : VK) (E : XK),
      Room k (A.deeper (envOfC x (defScope st) s.heap.objs.size f (.ref c))) → sp vs H Q E →
      ∃ t, PSs (cxOf CX0 P w K mg base N x (defScope st) f (.ref c) A outer s H E).nox (defBody st) t ∧
        t { nx := fun _ H' => Q .non H', rt := Q } (start N vs) H) : FnOk P w K mg base CX0 (k + 1) f fd ps sp := by
  obtain ⟨c1, d1, k1, doc, pm, an, cd, c2, sl, rfl, look, isCode⟩ := F.ex
  have hcd : cd = .ref c := hc
  subst hcd
  exact fn_of look isCode S len fun A outer s H vs Q E room want =>
    let ⟨t, h, q⟩ := body A outer s H vs Q E room want
    ⟨t, h.nox, q⟩

/-- a def's facts, put together -/
def dn_mk {x : Str} {st : Stmt} {ps : List Str} {K : PySem.W.Frag} {h : Heap} {mg : Str → Option Value} {f : Addr} {oc : Value} {od an : Option Addr} {sl : Array (Option Value)} {kV doc pm cdv ct : Value}
    (X : K.In h) (G : h.Ns mainGlobals mg) (a : PySem.W.nsIn K mainGlobals x = some (some (.ref f)))
    (l : K.lookup f = some ⟨oc, od, .func (PySem.W.fnOf x x (defArgs st) (defBody st) (defScope st) .none kV doc pm an cdv ct), sl⟩)
    (c : PySem.W.codeIn K cdv x = true) (k : PySem.W.keepIn K (.ref f) = true)
    (b : ∀ (kV doc pm : Value) (an : Option Addr) (cdv ct : Value) (us : List Value), us.length = ps.length → bindArgs (PySem.W.fnOf x x (defArgs st) (defBody st) (defScope st) .none kV doc pm an cdv ct) ⟨us, []⟩ = pure (ps.zip us)) :
    Dn K mg x st ps := ⟨f, _, PySem.W.mg_of X G a, fun_mk l c k, (fun_mk l c k).binds b⟩
theorem own_mk {K : PySem.W.Frag} {h : Heap} {mg : Str → Option Value} {nm : Str} (own : ∀ f, mg nm = some (.ref f) → LamX.OwnTab K f h)
    {f c tb : Addr} {o : Obj} {fd : FuncData} {e : Value} {dd : Option Addr} {vs : Array Value} {sl : Array (Option Value)}
    (m : mg nm = some (.ref f)) (l0 : K.lookup f = some o) (d : o.data = .func fd) (cc : fd.code = .ref c)
    (l1 : K.lookup c = some ⟨e, dd, .fields vs, sl⟩) (v : vs[11]? = some (.ref tb)) : h.get? tb = some { cls := .none, data := .fields #[] } :=
  own f m c tb o fd e dd vs sl l0 d cc l1 v
theorem code_mk {K : PySem.W.Frag} {h : Heap} (X : K.In h) {c tb : Addr} {dd : Option Addr} {vs : Array Value} {sl : Array (Option Value)} {file : Str} {tf tg tt : Tok} {flags text : Int} {inF : Bool}
    (lk : K.lookup c = some ⟨.type "code", dd, .fields vs, sl⟩) (v : vs[11]? = some (.ref tb)) (v1 : vs.getD 11 .none = .ref tb) (v2 : vs.getD 18 .none = .str file tf)
    (v3 : vs.getD 7 .none = .int flags tg) (v4 : vs.getD 9 .none = .bool inF) (v5 : vs.getD 10 .none = .int text tt) (n : c ≠ tb) : PySem.W.CodeHd h c tb :=
  ⟨_, vs, file, tf, flags, tg, inF, text, tt, X _ _ lk, rfl, rfl, v, v1, v2, v3, v4, v5, n⟩

/-- such a def's call, where no repr is under way -/
theorem pcallG {X : Cx} {x : Str} {st : Stmt} {ps : List Str} {sp : Sp} {j k : Nat} {e : Expr} {es : List Expr} {t : TA} {p pos : Pos}
    (D : Dn X.K X.mg x st ps) (G : FnG X.prog X.w X.K X.mg X.base j D.f D.fd ps sp) (guard : X.A.guards = some []) (hr : Room k X.A) (hjk : j ≤ k)
    (hg : Gl X x) (ha : PA X (e :: es) t) (hd : (x == ("__debug__" : Str)) = false := by decide)
    (he : starEach (e :: es) X.env = (false, eval e X.env) :: starEach es X.env := by rfl)
    (hp : (backTo pos (starEach es X.env)).any (·.1) = false := by rfl) :
    PE X (.Call (.Name x p) (e :: es) [] pos) (tCall sp [] E0 t) :=
  pe_callG G guard (hr.mono hjk) hg D.m D.F.kp D.b ha hd he hp
theorem ix_listK {X : Cx} {K : PySem.W.Frag} (h : X.K = K) : IxR X (rIxL K) := by
  rw [← h]
  exact ix_list
theorem ix_tupK {X : Cx} {K : PySem.W.Frag} (h : X.K = K) : IxR X (rIxT K) := by
  rw [← h]
  exact ix_tup
/-- a value's truth, as a test -/
def tTru (K : PySem.W.Frag) (ta : TE) : TT := fun σ H Q => ta σ H fun x H' => ∃ k, TruV K x H' k ∧ Q k H'
theorem pt_tru {X : Cx} {a : Expr} {ta : TE} (ha : PE X a ta) (he : ∀ whole, isTrue a X.env whole = (do let v ← whole; standAt a.pos; holding [v] (truthy v)) := by intro _; rfl) : PT X a (tTru X.K ta) := pt_truth ha he
/-- isinstance(x, tuple) -/
inductive IsTup (K : PySem.W.Frag) (H : Hp) : V → Bool → Prop
  | non : IsTup K H .non false
  | bl (b : Bool) : IsTup K H (.bl b) false
  | int (i : Int) : IsTup K H (.int i) false
  | str (z : Str) : IsTup K H (.str z) false
  | lst {a : Addr} (h : TyX K H (.ref a) (.type "list")) : IsTup K H (.ref a) false
  | tup {a : Addr} (h : TyX K H (.ref a) (.type "tuple")) : IsTup K H (.ref a) true
  | dct {a : Addr} (h : TyX K H (.ref a) (.type "dict")) : IsTup K H (.ref a) false
theorem isi_tup {K : PySem.W.Frag} {H : Hp} {x : V} {b : Bool} {Q : VK} (h : IsTup K H x b) (q : Q (.bl b) H) : rIsi K [x, .ty "tuple"] H Q := by
  cases h with
  | non => exact ⟨_, _, _, _, _, rfl, .ty _, .base .non, kit_ty (r := false) (by decide +kernel), q⟩
  | bl b => exact ⟨_, _, _, _, _, rfl, .ty _, .base (.bl b), kit_ty (r := false) (by decide +kernel), q⟩
  | int i => exact ⟨_, _, _, _, _, rfl, .ty _, .base (.int i), kit_ty (r := false) (by decide +kernel), q⟩
  | str z => exact ⟨_, _, _, _, _, rfl, .ty _, .base (.str z), kit_ty (r := false) (by decide +kernel), q⟩
  | lst h => exact ⟨_, _, _, _, _, rfl, .ty _, h, kit_ty (r := false) (by decide +kernel), q⟩
  | tup h => exact ⟨_, _, _, _, _, rfl, .ty _, h, kit_ty (r := true) (by decide +kernel), q⟩
  | dct h => exact ⟨_, _, _, _, _, rfl, .ty _, h, kit_ty (r := false) (by decide +kernel), q⟩
/-- isinstance(x, list) -/
inductive IsLst (K : PySem.W.Frag) (H : Hp) : V → Bool → Prop
  | non : IsLst K H .non false
  | bl (b : Bool) : IsLst K H (.bl b) false
  | int (i : Int) : IsLst K H (.int i) false
  | str (z : Str) : IsLst K H (.str z) false
  | lst {a : Addr} (h : TyX K H (.ref a) (.type "list")) : IsLst K H (.ref a) true
  | tup {a : Addr} (h : TyX K H (.ref a) (.type "tuple")) : IsLst K H (.ref a) false
  | dct {a : Addr} (h : TyX K H (.ref a) (.type "dict")) : IsLst K H (.ref a) false
theorem isi_lst {K : PySem.W.Frag} {H : Hp} {x : V} {b : Bool} {Q : VK} (h : IsLst K H x b) (q : Q (.bl b) H) : rIsi K [x, .ty "list"] H Q := by
  cases h with
  | non => exact ⟨_, _, _, _, _, rfl, .ty _, .base .non, kit_ty (r := false) (by decide +kernel), q⟩
  | bl b => exact ⟨_, _, _, _, _, rfl, .ty _, .base (.bl b), kit_ty (r := false) (by decide +kernel), q⟩
  | int i => exact ⟨_, _, _, _, _, rfl, .ty _, .base (.int i), kit_ty (r := false) (by decide +kernel), q⟩
  | str z => exact ⟨_, _, _, _, _, rfl, .ty _, .base (.str z), kit_ty (r := false) (by decide +kernel), q⟩
  | lst h => exact ⟨_, _, _, _, _, rfl, .ty _, h, kit_ty (r := true) (by decide +kernel), q⟩
  | tup h => exact ⟨_, _, _, _, _, rfl, .ty _, h, kit_ty (r := false) (by decide +kernel), q⟩
  | dct h => exact ⟨_, _, _, _, _, rfl, .ty _, h, kit_ty (r := false) (by decide +kernel), q⟩
section
variable {X : Cx}
theorem call_is_tuple : CallR X (.builtin "isinstance") (fun xs H Q => ∃ x b, xs = [x, .ty "tuple"] ∧ IsTup X.K H x b ∧ Q (.bl b) H) := by
  intro pins s σ H xs us Q I r ⟨x, b, e, th, q⟩
  subst e
  exact call_isi pins s σ H _ us Q I r (isi_tup th q)
theorem call_is_list : CallR X (.builtin "isinstance") (fun xs H Q => ∃ x b, xs = [x, .ty "list"] ∧ IsLst X.K H x b ∧ Q (.bl b) H) := by
  intro pins s σ H xs us Q I r ⟨x, b, e, th, q⟩
  subst e
  exact call_isi pins s σ H _ us Q I r (isi_lst th q)
theorem tyX_l {K : PySem.W.Frag} {H : Hp} {a : Addr} {xs : List V} (h : H a = some (.lst xs)) : TyX K H (.ref a) (.type "list") := .base (.lst h)
theorem tyX_t {K : PySem.W.Frag} {H : Hp} {a : Addr} {xs : List V} (h : H a = some (.tup xs)) : TyX K H (.ref a) (.type "tuple") := .base (.tup h)
end
/-! ### what is kept -/
/-- all that stood is kept, but the table at P -/
structure Nw (P : Addr) (H H' : Hp) : Prop where
  was : GxR.TabG H P
  tab : GxR.TabG H' P
  old : ∀ b o, b ≠ P → H b = some o → H' b = some o
theorem Nw.refl {P : Addr} {H : Hp} (h : GxR.TabG H P) : Nw P H H := ⟨h, h, fun _ _ _ e => e⟩
theorem Nw.trans {P : Addr} {H H1 H2 : Hp} (x : Nw P H H1) (y : Nw P H1 H2) : Nw P H H2 := ⟨x.was, y.tab, fun b o n e => y.old b o n (x.old b o n e)⟩
theorem Nw.of {P : Addr} {H H' : Hp} (h : GxR.TabG H P) (t : GxR.Tabbed P H H') : Nw P H H' := ⟨h, t.1, fun b o n e => by rw [t.2 b n]; exact e⟩
theorem tab_ne {P a : Addr} {H : Hp} {o : HO} (h : GxR.TabG H P) (e : H a = some o) (n : ∀ q, o ≠ .tbl q) : a ≠ P := fun z => by
  obtain ⟨ps, e2, _⟩ := h
  rw [z, e2] at e
  exact n ps (Option.some.inj e).symm
theorem tab_free {P a : Addr} {H : Hp} (h : GxR.TabG H P) (e : H a = none) : P ≠ a := fun z => by
  obtain ⟨ps, e2, _⟩ := h
  rw [z, e] at e2
  cases e2
theorem tab_upd {P a : Addr} {H : Hp} {o : HO} (h : GxR.TabG H P) (n : P ≠ a) : GxR.TabG (upd H a o) P := by
  obtain ⟨ps, e2, t⟩ := h
  exact ⟨ps, by rw [upd_ne n]; exact e2, t⟩
/-- a new object more -/
theorem Nw.new {P p : Addr} {H H1 : Hp} {u : HO} (x : Nw P H H1) (hp : H1 p = none) : Nw P H (L2.upd H1 p u) :=
  ⟨x.was, tab_upd x.tab (tab_free x.tab hp), fun c v n q => by rw [upd_ne (ne_of_none (x.old c v n q) hp)]; exact x.old c v n q⟩
/-- an object that is new since H is changed -/
theorem Nw.put {P p : Addr} {H H1 : Hp} {u o : HO} (x : Nw P H H1) (hp : H p = none) (ho : H1 p = some o) (n : ∀ q, o ≠ .tbl q) : Nw P H (L2.upd H1 p u) :=
  ⟨x.was, tab_upd x.tab (fun z => tab_ne x.tab ho n z.symm), fun c v m q => by rw [upd_ne (ne_of_none q hp)]; exact x.old c v m q⟩
theorem Nw.lst {P a : Addr} {H H' : Hp} {xs : List V} (x : Nw P H H') (e : H a = some (.lst xs)) : H' a = some (.lst xs) := x.old _ _ (tab_ne x.was e (fun q z => by cases z)) e
theorem Nw.tup {P a : Addr} {H H' : Hp} {xs : List V} (x : Nw P H H') (e : H a = some (.tup xs)) : H' a = some (.tup xs) := x.old _ _ (tab_ne x.was e (fun q z => by cases z)) e
theorem Nw.free {P a : Addr} {H H' : Hp} (x : Nw P H H') (e : H' a = none) : H a = none := by
  cases q : H a with
  | none => rfl
  | some o =>
    by_cases z : a = P
    · obtain ⟨ps, e2, _⟩ := x.tab
      rw [z, e2] at e
      cases e
    · rw [x.old _ _ z q] at e
      cases e
/-- what is no table is kept -/
def Keep (H H' : Hp) : Prop := ∀ b o, (∀ q, o ≠ .tbl q) → H b = some o → H' b = some o
theorem Nw.keep {P : Addr} {H H' : Hp} (x : Nw P H H') : Keep H H' := fun b o n e => x.old b o (tab_ne x.was e n) e
theorem tyOf_keep {K : PySem.W.Frag} {H H' : Hp} {x : V} {t : Value} (k : Keep H H') (h : TyOf K H x t) : TyOf K H' x t := by
  cases h with
  | non => exact .non
  | bl b => exact .bl b
  | int i => exact .int i
  | str z => exact .str z
  | flt z => exact .flt z
  | lst e => exact .lst (k _ _ (fun q z => by cases z) e)
  | frz e => exact .frz (k _ _ (fun q z => by cases z) e)
  | tup e => exact .tup (k _ _ (fun q z => by cases z) e)
  | dK e => exact .dK (k _ _ (fun q z => by cases z) e)
  | dT e => exact .dT (k _ _ (fun q z => by cases z) e)
  | ins e a b c d f => exact .ins (k _ _ (fun q z => by cases z) e) a b c d f
theorem tyX_keep {K : PySem.W.Frag} {H H' : Hp} {x : V} {t : Value} (k : Keep H H') (h : TyX K H x t) : TyX K H' x t := by
  cases h with
  | base h => exact .base (tyOf_keep k h)
  | byt b => exact .byt b
  | set e => exact .set (k _ _ (fun q z => by cases z) e)
  | kList e c => exact .kList e c
  | kTuple e c => exact .kTuple e c
  | kDict e c => exact .kDict e c
  | fTuple e => exact .fTuple (k _ _ (fun q z => by cases z) e)
  | fDict e => exact .fDict (k _ _ (fun q z => by cases z) e)
theorem Thing.keep {K : PySem.W.Frag} {H H' : Hp} {x : V} (k : Keep H H') (h : Thing K H x) : Thing K H' x := by
  cases h with
  | non => exact .non
  | bl b => exact .bl b
  | int i => exact .int i
  | str z => exact .str z
  | lst h => exact .lst (tyX_keep k h)
  | tup h => exact .tup (tyX_keep k h)
  | dct h => exact .dct (tyX_keep k h)
theorem IsTup.keep {K : PySem.W.Frag} {H H' : Hp} {x : V} {b : Bool} (k : Keep H H') (h : IsTup K H x b) : IsTup K H' x b := by
  cases h with
  | non => exact .non
  | bl b => exact .bl b
  | int i => exact .int i
  | str z => exact .str z
  | lst h => exact .lst (tyX_keep k h)
  | tup h => exact .tup (tyX_keep k h)
  | dct h => exact .dct (tyX_keep k h)
theorem IsLst.keep {K : PySem.W.Frag} {H H' : Hp} {x : V} {b : Bool} (k : Keep H H') (h : IsLst K H x b) : IsLst K H' x b := by
  cases h with
  | non => exact .non
  | bl b => exact .bl b
  | int i => exact .int i
  | str z => exact .str z
  | lst h => exact .lst (tyX_keep k h)
  | tup h => exact .tup (tyX_keep k h)
  | dct h => exact .dct (tyX_keep k h)
/-! ### a row of stretches in the heap -/
inductive PrsAt (H : Hp) : List Addr → List Pr → Prop
  | nil : PrsAt H [] []
  | cons {q : Addr} {qs : List Addr} {z : Pr} {r : List Pr} (h : H q = some (.tup [.int (z.1 : Int), .int (z.2 : Int)])) (t : PrsAt H qs r) : PrsAt H (q :: qs) (z :: r)
theorem PrsAt.len {H : Hp} {qs : List Addr} {r : List Pr} (h : PrsAt H qs r) : qs.length = r.length := by
  induction h with
  | nil => rfl
  | cons _ _ ih => rw [List.length_cons, List.length_cons, ih]
theorem PrsAt.app {H : Hp} {qs ps : List Addr} {r q : List Pr} (h : PrsAt H qs r) (g : PrsAt H ps q) : PrsAt H (qs ++ ps) (r ++ q) := by
  induction h with
  | nil => exact g
  | cons a _ ih => exact .cons a ih
theorem PrsAt.get {H : Hp} {qs : List Addr} {r : List Pr} (h : PrsAt H qs r) {i : Nat} {q : Addr} (e : qs[i]? = some q) : ∃ z, r[i]? = some z ∧ H q = some (.tup [.int (z.1 : Int), .int (z.2 : Int)]) := by
  induction h generalizing i with
  | nil => cases e
  | cons a _ ih =>
    cases i with
    | zero =>
      cases e
      exact ⟨_, rfl, a⟩
    | succ i => exact ih e
theorem PrsAt.put {H H' : Hp} {qs : List Addr} {r : List Pr} (h : PrsAt H qs r) (k : ∀ q xs, H q = some (.tup xs) → H' q = some (.tup xs)) : PrsAt H' qs r := by
  induction h with
  | nil => exact .nil
  | cons a _ ih => exact .cons (k _ _ a) ih
/-- at a stands a list of these stretches -/
def RowAt (H : Hp) (a : Addr) (r : List Pr) : Prop := ∃ qs : List Addr, H a = some (.lst (qs.map V.ref)) ∧ PrsAt H qs r
theorem RowAt.nw {P a : Addr} {H H' : Hp} {r : List Pr} (h : RowAt H a r) (x : Nw P H H') : RowAt H' a r := by
  obtain ⟨qs, e, p⟩ := h
  exact ⟨qs, x.lst e, p.put fun q xs e => x.tup e⟩
theorem RowAt.ne {P a : Addr} {H : Hp} {r : List Pr} (h : RowAt H a r) (t : GxR.TabG H P) : a ≠ P := by
  obtain ⟨qs, e, p⟩ := h
  exact tab_ne t e (fun q z => by cases z)
def prDat (z : Pr) : PyData := .tuple [.int (z.1 : Int), .int (z.2 : Int)]
def rowDat (r : List Pr) : PyData := .list (r.map prDat)
theorem PrsAt.dp {K : PySem.W.Frag} {H : Hp} {qs : List Addr} {r : List Pr} (h : PrsAt H qs r) : DpAll K H (qs.map V.ref) (r.map prDat) := by
  induction h with
  | nil => exact .nil
  | cons a _ ih => exact .cons (.tup (SqT.of a) (.cons (.int _) (.cons (.int _) .nil))) ih
theorem RowAt.dp {K : PySem.W.Frag} {H : Hp} {a : Addr} {r : List Pr} (h : RowAt H a r) : Dp K H (.ref a) (rowDat r) := by
  obtain ⟨qs, e, p⟩ := h
  exact .lst (SqL.of e) p.dp
end LL
namespace LL
open PySem PySem.Spec PyProof.Rows L2
def within : V → Int → Int → Bool
  | .int i, lo, hi => decide (lo ≤ i) && decide (i ≤ hi)
  | _, _, _ => false
def spanV : V → V → Nat → Bool
  | .int b, z, most => within (.int b) 0 most && within z (b + 1) most
  | _, _, _ => false
/-- whether a thing is a stretch -/
inductive StB (K : PySem.W.Frag) (H : Hp) : V → Bool → Prop
  | other {x : V} (h : IsTup K H x false) : StB K H x false
  | wrong {q : Addr} {xs : List V} (h : H q = some (.tup xs)) (n : xs.length ≠ 2) : StB K H (.ref q) false
  | pair {q : Addr} {y z : V} (h : H q = some (.tup [y, z])) (ty : Thing K H y) (tz : Thing K H z) : StB K H (.ref q) (spanV y z 400)
theorem atT0 (x : V) (xs : List V) : atI (x :: xs) 0 = some x := atI_nat (j := 0) rfl
theorem atT1 (x y : V) (xs : List V) : atI (x :: y :: xs) 1 = some y := atI_nat (j := 1) rfl
/-! ### rows as data -/
theorem prDat_eqv (z w : Pr) : PyData.eqv (prDat z) (prDat w) = decide (z = w) := by
  obtain ⟨a, b⟩ := z
  obtain ⟨a', b'⟩ := w
  have e : PyData.eqv (prDat (a, b)) (prDat (a', b')) = (((a : Int) == (a' : Int)) && (((b : Int) == (b' : Int)) && true)) := by simp only [prDat, PyData.eqv, PyData.eqvAll]
  rw [e]
  by_cases h : ((a, b) : Pr) = (a', b')
  · cases h
    simp
  · rw [decide_eq_false h]
    by_cases h1 : a = a'
    · by_cases h2 : b = b'
      · exact absurd (by rw [h1, h2]) h
      · have q : ((b : Int) == (b' : Int)) = false := beq_eq_false_iff_ne.mpr (by omega)
        rw [q, Bool.false_and, Bool.and_false]
    · have q : ((a : Int) == (a' : Int)) = false := beq_eq_false_iff_ne.mpr (by omega)
      rw [q, Bool.false_and]
theorem prDats_eqv : ∀ r q : List Pr, PyData.eqvAll (r.map prDat) (q.map prDat) = decide (r = q)
  | [], [] => by simp [PyData.eqvAll]
  | [], _ :: _ => by simp [PyData.eqvAll]
  | _ :: _, [] => by simp [PyData.eqvAll]
  | z :: r, w :: q => by
    have ih := prDats_eqv r q
    simp only [List.map_cons, PyData.eqvAll]
    rw [ih, prDat_eqv, Bool.eq_iff_iff]
    simp
theorem rowDat_eqv (r q : List Pr) : PyData.eqv (rowDat r) (rowDat q) = decide (r = q) := by
  simp only [rowDat, PyData.eqv]
  exact prDats_eqv r q
theorem prDats_lay : ∀ r : List Pr, PyData.canLayAll0 (r.map prDat) = true
  | [] => by simp [PyData.canLayAll0]
  | z :: r => by simp [PyData.canLayAll0, PyData.canLay0, prDat, prDats_lay r]
theorem prDats_depth : ∀ r : List Pr, PyData.depthAll (r.map prDat) ≤ 1
  | [] => by simp [PyData.depthAll]
  | z :: r => by
    have h1 := prDats_depth r
    simp only [List.map_cons, PyData.depthAll, prDat, PyData.depth]
    omega
theorem rowDat_shaped (r : List Pr) : SeqAt.shaped (rowDat r) = true := by
  have h1 := prDats_depth r
  have h2 : PyData.depth (rowDat r) ≤ 64 := by
    simp only [rowDat, PyData.depth]
    omega
  show (PyData.canLay0 (rowDat r) && decide (PyData.depth (rowDat r) ≤ 64)) = true
  rw [Bool.and_eq_true]
  exact ⟨by simp only [rowDat, PyData.canLay0]; exact prDats_lay r, decide_eq_true h2⟩
/-- all items of a row are stretches -/
theorem spanV_pr {z : Pr} (h : z.1 < z.2 ∧ z.2 ≤ 400) : spanV (.int (z.1 : Int)) (.int (z.2 : Int)) 400 = true := by
  simp only [spanV, within, Bool.and_eq_true, decide_eq_true_eq]
  omega
inductive StBs (K : PySem.W.Frag) (H : Hp) : List V → List Bool → Prop
  | nil : StBs K H [] []
  | cons {x : V} {b : Bool} {xs : List V} {bs : List Bool} (h : StB K H x b) (t : StBs K H xs bs) : StBs K H (x :: xs) (b :: bs)
theorem StBs.get {K : PySem.W.Frag} {H : Hp} {xs : List V} {bs : List Bool} (h : StBs K H xs bs) {i : Nat} {x : V} (e : xs[i]? = some x) : ∃ b, bs[i]? = some b ∧ StB K H x b := by
  induction h generalizing i with
  | nil => cases e
  | cons a _ ih =>
    cases i with
    | zero =>
      cases e
      exact ⟨_, rfl, a⟩
    | succ i => exact ih e
theorem StBs.len {K : PySem.W.Frag} {H : Hp} {xs : List V} {bs : List Bool} (h : StBs K H xs bs) : xs.length = bs.length := by
  induction h with
  | nil => rfl
  | cons _ _ ih => rw [List.length_cons, List.length_cons, ih]
theorem StB.pr {K : PySem.W.Frag} {H : Hp} {q : Addr} {z : Pr} (h : H q = some (.tup [.int (z.1 : Int), .int (z.2 : Int)])) (v : z.1 < z.2 ∧ z.2 ≤ 400) : StB K H (.ref q) true := by
  have x := StB.pair (K := K) h (.int _) (.int _)
  rw [spanV_pr v] at x
  exact x
theorem PrsAt.sts {K : PySem.W.Frag} {H : Hp} {qs : List Addr} {r : List Pr} (h : PrsAt H qs r) (v : Valid r) : StBs K H (qs.map V.ref) (r.map fun _ => true) := by
  induction h with
  | nil => exact .nil
  | cons a _ ih => exact .cons (StB.pr a (v _ List.mem_cons_self)) (ih fun z hz => v z (List.mem_cons_of_mem _ hz))
/-- a thing that is asked whether it is a tidy row -/
inductive RunsB (K : PySem.W.Frag) (H : Hp) : V → Bool → Prop
  | other {x : V} (h : IsLst K H x false) : RunsB K H x false
  | wrong {a : Addr} {xs : List V} {bs : List Bool} (h : H a = some (.lst xs)) (s : StBs K H xs bs) (n : bs.all id = false) : RunsB K H (.ref a) false
  | row {a : Addr} {r : List Pr} (h : RowAt H a r) (v : Valid r) : RunsB K H (.ref a) (decide (Tidy r))
theorem StB.keep {K : PySem.W.Frag} {H H' : Hp} {x : V} {b : Bool} (k : Keep H H') (h : StB K H x b) : StB K H' x b := by
  cases h with
  | other h => exact .other (h.keep k)
  | wrong h e => exact .wrong (k _ _ (fun q z => by cases z) h) e
  | pair h a b => exact .pair (k _ _ (fun q z => by cases z) h) (a.keep k) (b.keep k)
theorem StBs.keep {K : PySem.W.Frag} {H H' : Hp} {xs : List V} {bs : List Bool} (k : Keep H H') (h : StBs K H xs bs) : StBs K H' xs bs := by
  induction h with
  | nil => exact .nil
  | cons a _ ih => exact .cons (a.keep k) ih
theorem RowAt.keep {a : Addr} {H H' : Hp} {r : List Pr} (k : Keep H H') (h : RowAt H a r) : RowAt H' a r := by
  obtain ⟨qs, e, p⟩ := h
  exact ⟨qs, k _ _ (fun q z => by cases z) e, p.put fun q xs e => k _ _ (fun q z => by cases z) e⟩
theorem PrsAt.snoc {H : Hp} : ∀ {qs : List Addr} {r : List Pr} {z : Pr}, PrsAt H qs (r ++ [z]) → ∃ ps q, qs = ps ++ [q] ∧ PrsAt H ps r ∧ H q = some (.tup [.int (z.1 : Int), .int (z.2 : Int)])
  | [], [], _, h => nomatch h
  | [], _ :: _, _, h => nomatch h
  | q :: qs, [], z, h => by
    cases h with
    | cons a t =>
      cases t
      exact ⟨[], q, rfl, .nil, a⟩
  | q :: qs, y :: r, z, h => by
    cases h with
    | cons a t =>
      obtain ⟨ps, q', rfl, p, e⟩ := PrsAt.snoc t
      exact ⟨q :: ps, q', rfl, .cons a p, e⟩
theorem has_below {r : List Pr} {i : Nat} (v : Valid r) (h : ∀ n, has r n = true → n < i) : ∀ z ∈ r, z.2 ≤ i := fun z hz => by
  obtain ⟨a, b⟩ := v z hz
  have : has r (z.2 - 1) = true := List.any_eq_true.mpr ⟨z, hz, by rw [decide_eq_true (show z.1 ≤ z.2 - 1 by omega), decide_eq_true (show z.2 - 1 < z.2 by omega)]; rfl⟩
  have := h _ this
  omega
theorem snoc_of {r : List Pr} (h : r ≠ []) : ∃ q z, r = q ++ [z] := ⟨r.dropLast, r.getLast h, (List.dropLast_concat_getLast h).symm⟩
theorem TidyFrom.last : ∀ {r : List Pr} {b : Nat} {z y : Pr}, TidyFrom b (r ++ [z]) → y ∈ r ++ [z] → y.2 ≤ z.2
  | [], _, z, y, _, h => by
    rw [List.mem_singleton.mp h]
    exact Nat.le_refl _
  | w :: r, b, z, y, ⟨h1, h2, h3, h4⟩, h => by
    rcases List.mem_cons.mp h with rfl | h
    · obtain ⟨v1, _⟩ := h4.valid z (List.mem_append_right _ List.mem_cons_self)
      have : has (r ++ [z]) z.1 = true := by rw [has_app, has_cons, decide_eq_true (Nat.le_refl _), decide_eq_true v1]; simp
      have := (h4.low this).1
      omega
    · exact TidyFrom.last (r := r) h4 h
end LL
namespace LL
open PySem PySem.Spec PyProof.Rows L2
/-- a law's box: what is left of the cell, its rest, a count -/
def BoxO (o : HO) : Prop := ∃ x b c : Int, o = .lst [.int x, .int b, .int c] ∧ 0 ≤ x ∧ 0 ≤ b ∧ b < 4294967296
/-- the box at a may have changed, the rest is kept -/
structure Kept (a : Addr) (H H' : Hp) : Prop where
  box : ∃ o, H' a = some o ∧ BoxO o
  old : ∀ b o, b ≠ a → H b = some o → H' b = some o
theorem Kept.upd {a : Addr} {H : Hp} {o : HO} (h : BoxO o) : Kept a H (upd H a o) := ⟨⟨o, upd_same, h⟩, fun b _ n e => by rw [upd_ne n]; exact e⟩
theorem Kept.trans {a : Addr} {H H1 H2 : Hp} (x : Kept a H H1) (y : Kept a H1 H2) : Kept a H H2 := ⟨y.box, fun b o n e => y.old b o n (x.old b o n e)⟩
theorem Kept.refl {a : Addr} {H : Hp} (h : ∃ o, H a = some o ∧ BoxO o) : Kept a H H := ⟨h, fun _ _ _ e => e⟩
/-- a new object more -/
theorem Kept.new {a p : Addr} {H H1 : Hp} {u : HO} (x : Kept a H H1) (hp : H1 p = none) : Kept a H (L2.upd H1 p u) := by
  obtain ⟨⟨o, e, b⟩, old⟩ := x
  exact ⟨⟨o, by rw [upd_ne (ne_of_none e hp)]; exact e, b⟩, fun c v n q => by rw [upd_ne (ne_of_none (old c v n q) hp)]; exact old c v n q⟩
theorem at0 (x y z : V) : atI [x, y, z] 0 = some x := atI_nat (j := 0) rfl
theorem at1 (x y z : V) : atI [x, y, z] 1 = some y := atI_nat (j := 1) rfl
theorem at2 (x y z : V) : atI [x, y, z] 2 = some z := atI_nat (j := 2) rfl
theorem Kept.tab {a P : Addr} {H H' : Hp} (x : Kept a H H') (b : ∃ o, H a = some o ∧ BoxO o) (t : GxR.TabG H P) : GxR.TabG H' P := by
  obtain ⟨o, e, x0, y0, z0, rfl, _⟩ := b
  obtain ⟨ps, e2, t2⟩ := t
  exact ⟨ps, x.old P _ (fun z => by rw [z, e] at e2; cases e2) e2, t2⟩
/-- a box that is new since H0 -/
theorem Nw.kept {a P : Addr} {H0 H H' : Hp} (n : Nw P H0 H) (h : H0 a = none) (b : ∃ o, H a = some o ∧ BoxO o) (x : Kept a H H') : Nw P H0 H' :=
  ⟨n.was, x.tab b n.tab, fun c o m e => x.old c o (fun z => by rw [z, h] at e; cases e) (n.old c o m e)⟩
theorem RowAt.kept {a b : Addr} {H H' : Hp} {r : List Pr} (h : RowAt H b r) (bx : ∃ o, H a = some o ∧ BoxO o) (x : Kept a H H') : RowAt H' b r := by
  obtain ⟨o, e, x0, y0, z0, rfl, _⟩ := bx
  obtain ⟨qs, e1, p⟩ := h
  refine ⟨qs, x.old b _ (fun z => ?_) e1, p.put fun q xs e2 => x.old q _ (fun z => by rw [z, e] at e2; cases e2) e2⟩
  rw [z, e] at e1
  have := congrArg (fun u : Option HO => match u with | some (.lst (v :: _)) => some v | _ => none) e1
  cases qs with
  | nil => cases this
  | cons q qs => cases this
/-- nothing that stood is changed -/
def Exd (H H' : Hp) : Prop := ∀ b o, H b = some o → H' b = some o
theorem Exd.refl (H : Hp) : Exd H H := fun _ _ e => e
theorem Exd.trans {H H1 H2 : Hp} (x : Exd H H1) (y : Exd H1 H2) : Exd H H2 := fun b o e => y b o (x b o e)
theorem Exd.new {p : Addr} {H H1 : Hp} {u : HO} (x : Exd H H1) (hp : H1 p = none) : Exd H (L2.upd H1 p u) := fun b o e => by
  rw [upd_ne (ne_of_none (x b o e) hp)]
  exact x b o e
theorem Exd.put {p : Addr} {H H1 : Hp} {u : HO} (x : Exd H H1) (hp : H p = none) : Exd H (L2.upd H1 p u) := fun b o e => by
  rw [upd_ne (ne_of_none e hp)]
  exact x b o e
theorem Exd.nw {P : Addr} {H H' : Hp} (x : Exd H H') (t : GxR.TabG H P) : Nw P H H' := by
  obtain ⟨ps, e, t2⟩ := id t
  exact ⟨t, ⟨ps, x P _ e, t2⟩, fun b o _ e => x b o e⟩
theorem Exd.row {a : Addr} {H H' : Hp} {r : List Pr} (x : Exd H H') (h : RowAt H a r) : RowAt H' a r := h.keep fun b o _ e => x b o e
theorem Exd.kept {a : Addr} {H H' : Hp} (x : Exd H H') (b : ∃ o, H a = some o ∧ BoxO o) : Kept a H H' := by
  obtain ⟨o, e, bo⟩ := b
  exact ⟨⟨o, x a o e, bo⟩, fun c u _ q => x c u q⟩
theorem Exd.free {a : Addr} {H H' : Hp} (x : Exd H H') (e : H' a = none) : H a = none := by
  cases q : H a with
  | none => rfl
  | some o =>
    rw [x a o q] at e
    cases e
theorem Kept.free {a b : Addr} {H H' : Hp} (x : Kept a H H') (e : H' b = none) : H b = none := by
  cases q : H b with
  | none => rfl
  | some o =>
    by_cases z : b = a
    · obtain ⟨o', e', _⟩ := x.box
      rw [z, e'] at e
      cases e
    · rw [x.old b o z q] at e
      cases e
/-! ### four hundred marks -/
def marks (S : Nat → Bool) : List V := (List.range 400).map fun n => V.bl (S n)
theorem marks_len (S : Nat → Bool) : (marks S).length = 400 := by unfold marks; rw [List.length_map, List.length_range]
theorem marks_get (S : Nat → Bool) {n : Nat} (h : n < 400) : (marks S)[n]? = some (.bl (S n)) := by
  unfold marks
  rw [List.getElem?_map, List.getElem?_range h]
  rfl
theorem marks_at (S : Nat → Bool) {n : Nat} (h : n < 400) : atI (marks S) (n : Int) = some (.bl (S n)) := atI_nat (marks_get S h)
theorem flat_rep (n : Nat) (x : V) : (List.replicate n [x]).flatten = List.replicate n x := by
  induction n with
  | zero => rfl
  | succ n ih => rw [List.replicate_succ, List.flatten_cons, ih]; rfl
theorem marks_none : (List.replicate (400 : Int).toNat [V.bl false]).flatten = marks fun _ => false := by
  rw [flat_rep]
  unfold marks
  rw [List.map_const', List.length_range]
  rfl
theorem marks_set (S : Nat → Bool) (n : Nat) : (marks S).set n (V.bl true) = marks fun i => S i || decide (i = n) := by
  apply List.ext_getElem?
  intro i
  by_cases l : i < 400
  · rw [marks_get _ l, List.getElem?_set]
    by_cases e : n = i
    · subst e
      rw [if_pos rfl, if_pos (by rw [marks_len]; exact l), decide_eq_true rfl, Bool.or_true]
    · rw [if_neg e, marks_get _ l, decide_eq_false (fun z => e z.symm), Bool.or_false]
  · rw [List.getElem?_eq_none (by rw [List.length_set, marks_len]; omega), List.getElem?_eq_none (by rw [marks_len]; omega)]
theorem marks_ext {S T : Nat → Bool} (h : ∀ n, n < 400 → S n = T n) : marks S = marks T := by
  apply List.ext_getElem?
  intro i
  by_cases l : i < 400
  · rw [marks_get _ l, marks_get _ l, h i l]
  · rw [List.getElem?_eq_none (by rw [marks_len]; omega), List.getElem?_eq_none (by rw [marks_len]; omega)]
theorem marks_snoc (S : Nat → Bool) (n : Nat) : ((List.range (n + 1)).map fun i => V.bl (S i)) = ((List.range n).map fun i => V.bl (S i)) ++ [.bl (S n)] := by
  rw [List.range_succ, List.map_append]
  rfl
end LL
namespace LL
open PySem PySem.Spec PyProof.Rows L2
/-! ### what repr asks of data -/
/-- data of at most W bits and places, its whole numbers short -/
structure Sm (d : PyData) (k W : Nat) : Prop where
  lay : d.canLay0 = true
  sh : d.showable = true
  shrt : d.intsShort 13 = true
  dep : d.depth ≤ k
  wt : d.weight ≤ W
structure SmAll (ds : List PyData) (k W : Nat) : Prop where
  lay : PyData.canLayAll0 ds = true
  sh : PyData.showableAll ds = true
  shrt : PyData.intsShortAll 13 ds = true
  dep : PyData.depthAll ds ≤ k
  wt : PyData.weightAll ds ≤ W
theorem smAll_nil : SmAll [] 0 0 := ⟨rfl, rfl, rfl, Nat.le_refl _, Nat.le_refl _⟩
theorem SmAll.cons {d : PyData} {ds : List PyData} {k l W U : Nat} (h : Sm d k W) (t : SmAll ds l U) : SmAll (d :: ds) (max k l) (W + 1 + U) := by
  refine ⟨?_, ?_, ?_, ?_, ?_⟩
  · simp only [PyData.canLayAll0, h.lay, t.lay, Bool.and_self]
  · simp only [PyData.showableAll, h.sh, t.sh, Bool.and_self]
  · simp only [PyData.intsShortAll, h.shrt, t.shrt, Bool.and_self]
  · simp only [PyData.depthAll]
    have := h.dep
    have := t.dep
    omega
  · simp only [PyData.weightAll]
    have := h.wt
    have := t.wt
    omega
theorem SmAll.list {ds : List PyData} {k W : Nat} (t : SmAll ds k W) : Sm (.list ds) (k + 1) W :=
  ⟨by simp only [PyData.canLay0]; exact t.lay, by simp only [PyData.showable]; exact t.sh, by simp only [PyData.intsShort]; exact t.shrt, by simp only [PyData.depth]; have := t.dep; omega, by simp only [PyData.weight]; exact t.wt⟩
theorem SmAll.tuple {ds : List PyData} {k W : Nat} (t : SmAll ds k W) : Sm (.tuple ds) (k + 1) W :=
  ⟨by simp only [PyData.canLay0]; exact t.lay, by simp only [PyData.showable]; exact t.sh, by simp only [PyData.intsShort]; exact t.shrt, by simp only [PyData.depth]; have := t.dep; omega, by simp only [PyData.weight]; exact t.wt⟩
theorem Sm.mono {d : PyData} {k l W U : Nat} (h : Sm d k W) (a : k ≤ l) (b : W ≤ U) : Sm d l U := ⟨h.lay, h.sh, h.shrt, Nat.le_trans h.dep a, Nat.le_trans h.wt b⟩
theorem SmAll.mono {d : List PyData} {k l W U : Nat} (h : SmAll d k W) (a : k ≤ l) (b : W ≤ U) : SmAll d l U := ⟨h.lay, h.sh, h.shrt, Nat.le_trans h.dep a, Nat.le_trans h.wt b⟩
theorem smAll_of {ds : List PyData} {k W : Nat} (h : ∀ d ∈ ds, Sm d k W) : SmAll ds k ((W + 1) * ds.length) := by
  induction ds with
  | nil => exact smAll_nil.mono (Nat.zero_le _) (Nat.zero_le _)
  | cons d ds ih =>
    refine ((h d List.mem_cons_self).mono (Nat.le_refl _) (Nat.le_refl _) |> fun x => SmAll.cons x (ih fun y hy => h y (List.mem_cons_of_mem _ hy))).mono (by omega) ?_
    rw [List.length_cons, Nat.mul_succ]
    omega
theorem short_nat : ∀ n : Nat, n < 1001 → (PyData.shown (.int (n : Int))).length ≤ 13 := by decide +kernel
theorem bits_nat : ∀ n : Nat, n < 1001 → (PyData.weight (.int (n : Int))) ≤ 10 ∧ ((n : Int)).natAbs.log2 < 1920 := by decide +kernel
theorem sm_nat {n : Nat} (h : n ≤ 1000) : Sm (.int (n : Int)) 0 10 :=
  ⟨by simp only [PyData.canLay0], by simp only [PyData.showable]; exact decide_eq_true (bits_nat n (by omega)).2, by simp only [PyData.intsShort]; exact decide_eq_true (short_nat n (by omega)), by simp only [PyData.depth]; exact Nat.le_refl _, (bits_nat n (by omega)).1⟩
theorem sm_pr {z : Pr} (h : z.1 < z.2 ∧ z.2 ≤ 400) : Sm (prDat z) 1 22 :=
  (((sm_nat (by omega)).mono (Nat.le_refl _) (Nat.le_refl _) |> fun a => SmAll.cons a (SmAll.cons (sm_nat (n := z.2) (by omega)) smAll_nil)).tuple).mono (by decide) (by decide)
theorem sm_row {r : List Pr} (v : Valid r) (l : r.length ≤ 400) : Sm (rowDat r) 2 9200 := by
  have := (smAll_of (ds := r.map prDat) (k := 1) (W := 22) fun d hd => by
    obtain ⟨z, hz, rfl⟩ := List.mem_map.mp hd
    exact sm_pr (v z hz)).list
  refine this.mono (by decide) ?_
  rw [List.length_map]
  omega
theorem Sm.rep {d : PyData} {k W : Nat} (h : Sm d k W) (hk : k ≤ 60) (hW : W ≤ 1048576) : d.showable = true ∧ d.hasDict = false ∧ d.depth ≤ 60 ∧ d.shown.length ≤ sizeLine := by
  refine ⟨h.sh, PyData.hasDict_of_canLay d h.lay, Nat.le_trans h.dep hk, ?_⟩
  refine PyData.shown_fits (B := 13) (by decide) (by decide) (PyData.leavesShort_of_canLay0 13 d h.lay h.shrt) ?_
  have e : (2 : Nat) ^ 20 = 1048576 := by decide
  have := h.wt
  omega
theorem Sm.shaped {d : PyData} {k W : Nat} (h : Sm d k W) (hk : k ≤ 60) : SeqAt.shaped d = true := by
  show (d.canLay0 && decide (d.depth ≤ 64)) = true
  rw [h.lay, Bool.true_and]
  have := h.dep
  exact decide_eq_true (by omega)
/-- repr of such data -/
theorem call_reprM {X : Cx} (guard : X.A.guards = some []) {k : Nat} (room : Room k X.A) : CallR X (.builtin "repr") (fun xs H Q => ∃ v d, xs = [v] ∧ Dp X.K H v d ∧ isDisplay d = true ∧ Sm d 60 1048576 ∧ Q (.str d.shown) H) := by
  intro pins s σ H xs us Q I r ⟨v, d, e, dp, di, sm, q⟩
  obtain ⟨a, b, c, l⟩ := sm.rep (Nat.le_refl _) (Nat.le_refl _)
  exact call_reprD guard room pins s σ H xs us Q I r ⟨v, d, e, dp, di, a, b, c, l, q⟩
/-! ### lists of rows -/
inductive RowsAt (H : Hp) : List Addr → List (List Pr) → Prop
  | nil : RowsAt H [] []
  | cons {a : Addr} {as : List Addr} {r : List Pr} {rs : List (List Pr)} (h : RowAt H a r) (t : RowsAt H as rs) : RowsAt H (a :: as) (r :: rs)
theorem RowsAt.dp {K : PySem.W.Frag} {H : Hp} {as : List Addr} {rs : List (List Pr)} (h : RowsAt H as rs) : DpAll K H (as.map V.ref) (rs.map rowDat) := by
  induction h with
  | nil => exact .nil
  | cons a _ ih => exact .cons a.dp ih
theorem RowsAt.keep {H H' : Hp} {as : List Addr} {rs : List (List Pr)} (k : Keep H H') (h : RowsAt H as rs) : RowsAt H' as rs := by
  induction h with
  | nil => exact .nil
  | cons a _ ih => exact .cons (a.keep k) ih
def rowsDat (rs : List (List Pr)) : PyData := .list (rs.map rowDat)
theorem rows_dp {K : PySem.W.Frag} {H : Hp} {p : Addr} {as : List Addr} {rs : List (List Pr)} (e : H p = some (.lst (as.map V.ref))) (h : RowsAt H as rs) : Dp K H (.ref p) (rowsDat rs) := .lst (SqL.of e) h.dp
theorem sm_rows {rs : List (List Pr)} (h : ∀ r ∈ rs, Valid r ∧ r.length ≤ 400) (l : rs.length ≤ 100) : Sm (rowsDat rs) 60 1048576 := by
  have := (smAll_of (ds := rs.map rowDat) (k := 2) (W := 9200) fun d hd => by
    obtain ⟨r, hr, rfl⟩ := List.mem_map.mp hd
    exact sm_row (h r hr).1 (h r hr).2).list
  refine this.mono (by decide) ?_
  rw [List.length_map]
  omega
theorem eqvs_rows : ∀ rs qs : List (List Pr), PyData.eqvAll (rs.map rowDat) (qs.map rowDat) = decide (rs = qs)
  | [], [] => by simp [PyData.eqvAll]
  | [], _ :: _ => by simp [PyData.eqvAll]
  | _ :: _, [] => by simp [PyData.eqvAll]
  | r :: rs, q :: qs => by
    have ih := eqvs_rows rs qs
    simp only [List.map_cons, PyData.eqvAll]
    rw [ih, rowDat_eqv, Bool.eq_iff_iff]
    simp
theorem rowsDat_eqv (rs qs : List (List Pr)) : PyData.eqv (rowsDat rs) (rowsDat qs) = decide (rs = qs) := by
  simp only [rowsDat, PyData.eqv]
  exact eqvs_rows rs qs
theorem RowAt.upd {H : Hp} {a d : Addr} {r : List Pr} {xs ys : List V} (h : RowAt H a r) (n : a ≠ d) (e : H d = some (.lst xs)) : RowAt (L2.upd H d (.lst ys)) a r := by
  obtain ⟨qs, e1, p⟩ := h
  exact ⟨qs, by rw [upd_ne n]; exact e1, p.put fun q zs e2 => by rw [upd_ne (ne_of e2 e (by intro z; cases z))]; exact e2⟩
theorem RowsAt.upd {H : Hp} {as : List Addr} {d : Addr} {rs : List (List Pr)} {xs ys : List V} (h : RowsAt H as rs) (n : ∀ a ∈ as, a ≠ d) (e : H d = some (.lst xs)) : RowsAt (L2.upd H d (.lst ys)) as rs := by
  induction h with
  | nil => exact .nil
  | cons a _ ih => exact .cons (a.upd (n _ List.mem_cons_self) e) (ih fun a ha => n a (List.mem_cons_of_mem _ ha))
theorem RowsAt.app {H : Hp} {as bs : List Addr} {rs qs : List (List Pr)} (h : RowsAt H as rs) (g : RowsAt H bs qs) : RowsAt H (as ++ bs) (rs ++ qs) := by
  induction h with
  | nil => exact g
  | cons a _ ih => exact .cons a ih
theorem Exd.rows {H H' : Hp} {as : List Addr} {rs : List (List Pr)} (x : Exd H H') (h : RowsAt H as rs) : RowsAt H' as rs := h.keep fun b o _ e => x b o e
theorem marks_ne {H : Hp} {d x : Addr} {xs : List V} {S : Nat → Bool} (e1 : H d = some (.lst xs)) (e2 : H x = some (.lst (marks S))) (n : xs.length < 400) : d ≠ x := fun z => by
  rw [z, e2] at e1
  injection e1 with e1
  injection e1 with e1
  rw [← e1, marks_len] at n
  exact Nat.lt_irrefl _ n
/-- [f(k) for k in range(400)], True or False each -/
theorem lc_marks {j : Nat} {te : TE} {vs : List Nat} {σ : L2.St} {H1 : Hp} {D : Addr} {Qd : Hp → Prop} (f : Nat → Bool) (hw : ∀ v : V, wipe ((wipe σ vs).set j (some v)) vs = wipe σ vs)
    (hs : ∀ (i : Nat) (H' : Hp) (Q : VK), i < 400 → H' = upd H1 D (.lst ((List.range i).map fun n => V.bl (f n))) → Q (.bl (f i)) H' → te ((wipe σ vs).set j (some (.int ((0 : Int) + (i : Int))))) H' Q) (hd : Qd (upd H1 D (.lst (marks f)))) :
    ∃ W : Nat → Nat → Hp → Prop, (∃ m, W 0 m (upd H1 D (.lst []))) ∧ ∀ i m H, W i m H →
      ((Itr 0 (400 : Int).toNat).stop i H ∧ Qd H) ∨ ((Itr 0 (400 : Int).toNat).go i H ∧ ∃ Nx : Hp → Prop, (∀ H', Nx H' → ∃ m', m' < m ∧ W (i + 1) m' H') ∧ ∀ x H', (Itr 0 (400 : Int).toNat).yld i H x H' → gName j x (wipe σ vs) H' fun σ2 H2 => wipe σ2 vs = wipe σ vs ∧ tYes σ2 H2 fun b H3 =>
        if b = true then te σ2 H3 fun y H4 => ∃ acc, H4 D = some (.lst acc) ∧ acc.length < sizeLine ∧ Nx (upd H4 D (.lst (acc ++ [y]))) else Nx H3) := by
  refine lc_range (lo := 0) (fun i H' => H' = upd H1 D (.lst ((List.range i).map fun n => V.bl (f n)))) rfl ?_ ?_
  · intro i H' hi e
    have hi : i < 400 := hi
    refine ⟨hw _, ?_⟩
    refine hs i H' (fun y H4 => ∃ acc, H4 D = some (.lst acc) ∧ acc.length < sizeLine ∧ upd H4 D (.lst (acc ++ [y])) = upd H1 D (.lst ((List.range (i + 1)).map fun n => V.bl (f n)))) hi e ⟨_, by rw [e]; exact upd_same, ?_, ?_⟩
    · rw [List.length_map, List.length_range]
      have := PySem.sizeLine_eq
      omega
    · rw [e, upd_upd, marks_snoc]
  · intro H' e
    have e : H' = upd H1 D (.lst (marks f)) := e
    rw [e]
    exact hd
theorem RowsAt.kept {a : Addr} {H H' : Hp} {as : List Addr} {rs : List (List Pr)} (h : RowsAt H as rs) (bx : ∃ o, H a = some o ∧ BoxO o) (x : Kept a H H') : RowsAt H' as rs := by
  induction h with
  | nil => exact .nil
  | cons r _ ih => exact .cons (r.kept bx x) ih
theorem RowsAt.nw {P : Addr} {H H' : Hp} {as : List Addr} {rs : List (List Pr)} (h : RowsAt H as rs) (x : Nw P H H') : RowsAt H' as rs := h.keep x.keep
theorem sqL_nw {P : Addr} {H H' : Hp} {K : PySem.W.Frag} {a : Addr} {xs : List V} (x : Nw P H H') (h : SqL K H a xs) : SqL K H' a xs := by
  rcases h with h | h
  · refine .inl ?_
    rcases h with h | ⟨o, h⟩
    · exact .inl (x.keep _ _ (fun q z => by cases z) h)
    · exact .inr ⟨o, x.keep _ _ (fun q z => by cases z) h⟩
  · exact .inr h
/-- [e for x in range(lo, .., c)] -/
theorem lc_step {lo c : Int} {n : Nat} {g : TG} {tt : TT} {te : TE} {vs : List Nat} {σ : L2.St} {H1 : Hp} {D : Addr} {Qd : Hp → Prop} (J : Nat → Hp → Prop) (first : J 0 (upd H1 D (.lst [])))
    (turn : ∀ i H, i < n → J i H → g (.int (lo + (i : Nat) * c)) (wipe σ vs) H fun σ2 H2 => wipe σ2 vs = wipe σ vs ∧ tt σ2 H2 fun b H3 =>
      if b = true then te σ2 H3 fun y H4 => ∃ acc, H4 D = some (.lst acc) ∧ acc.length < sizeLine ∧ J (i + 1) (upd H4 D (.lst (acc ++ [y]))) else J (i + 1) H3) (last : ∀ H, J n H → Qd H) :
    ∃ W : Nat → Nat → Hp → Prop, (∃ m, W 0 m (upd H1 D (.lst []))) ∧ ∀ i m H, W i m H →
      ((Itc lo c n).stop i H ∧ Qd H) ∨ ((Itc lo c n).go i H ∧ ∃ Nx : Hp → Prop, (∀ H', Nx H' → ∃ m', m' < m ∧ W (i + 1) m' H') ∧ ∀ x H', (Itc lo c n).yld i H x H' → g x (wipe σ vs) H' fun σ2 H2 => wipe σ2 vs = wipe σ vs ∧ tt σ2 H2 fun b H3 =>
        if b = true then te σ2 H3 fun y H4 => ∃ acc, H4 D = some (.lst acc) ∧ acc.length < sizeLine ∧ Nx (upd H4 D (.lst (acc ++ [y]))) else Nx H3) := by
  refine ⟨fun i m H => m = n - i ∧ i ≤ n ∧ J i H, ⟨n, by simp, Nat.zero_le _, first⟩, ?_⟩
  rintro i m H ⟨rfl, le, j⟩
  rcases Nat.lt_or_ge i n with lt | ge
  · refine .inr ⟨lt, J (i + 1), fun H' j' => ⟨n - (i + 1), by omega, rfl, lt, j'⟩, fun x H' y => ?_⟩
    obtain ⟨rfl, rfl⟩ := y
    exact turn i _ lt j
  · obtain rfl : i = n := by omega
    exact .inl ⟨Nat.le_refl _, last H j⟩
end LL
namespace LL
open PySem PySem.Spec PyProof.Rows L2
/-! ### list(reversed(x)), x a list -/
section
variable {prog : Program} {w : World} {A : Around} {E : Value → Shared → Prop} {s : Shared} {it l : Addr} {ys : Array Value}
/-- what a list drew from such an iterator -/
def BackOf (ys acc : Array Value) : Prop := ItemsOf (fun i v => ys[ys.size - 1 - i]? = some v) acc ys.size
theorem back_extend {Rr : Result → Shared → Prop} (calm : A.handled = none) (ri : s.heap.IsRevIter it l ((ys.size : Int) - 1)) (li : s.heap.IsList l ys) (ne : l ≠ it) (few : ys.size ≤ sizeLine)
    (S : Addr) (Si : S ≠ it) (Sl : S ≠ l) (res : Value) (c0 : Nat) (eS : s.heap.get? S = some { cls := .type "list", data := .seq #[] c0 })
    (fin : ∀ h' tk acc c', (∀ b o, b ≠ S → b ≠ it → s.heap.get? b = some o → h'.get? b = some o) → h'.get? S = some { cls := .type "list", dict := none, data := .seq acc c', slots := #[] } → BackOf ys acc →
      Rr (.ok (.ret res)) { s with heap := h', toks := tk }) :
    wpAny (model prog w) A.in1 (Builtin.List.listExtendWith (.ref S) (.ref it) res)
      (fun z s' => match z with | .done f => Rr (.ok f) s' | .again c' => c'.quiet = true ∧ codeAny (model prog w) A c' Rr s') (fun e s' => Rr (.error e) s') s := by
  have W := (Walks.listRev (prog := prog) (w := w) (A := A.in1) calm it l ne ys).toS
  have notIn : S ∉ [it, l] := by
    simp only [List.mem_cons, List.not_mem_nil, or_false, not_or]
    exact ⟨Si, Sl⟩
  have ty : s.TypeIs (.ref it) "list_reverseiterator" := ri.typeIs
  have other : Builtin.List.listSameRef (.ref S) (.ref it) = false := by simp [Builtin.List.listSameRef, Si]
  have e0 : ((ys.size : Nat) : Int) - 1 - ((0 : Nat) : Int) = (ys.size : Int) - 1 := by omega
  unfold Builtin.List.listExtendWith
  refine wpAny_bind (wpAny_typeOf ty ?_)
  rw [if_neg (by rw [other]; decide)]
  refine wpAny_bind (wpAny_pyIter_revIter ri ?_)
  refine wpAny_bind (wpAny_holding ?_)
  unfold Builtin.List.listLengthHint
  refine wpAny_bind (wpAny_specialOf ty RT.nolen_lri ?_)
  refine (show wpAny _ A.in1 (specialOf (Value.ref it) (Str.ofString "__length_hint__") >>= _) _ _ _ from ?_)
  refine wpAny_bind (wpAny_specialOf ty RT.hint_lri ?_)
  generalize hid : ("list_reverseiterator.__length_hint__" : String) = id0
  wp_delta
  rw [show splitId id0 = some ("list_reverseiterator", "__length_hint__") from by subst hid; decide +kernel]
  subst hid
  refine wpAny_bind (wpAny_isInstance (b := true) ty (by rw [isSubtype_type]; kernel_rfl) ?_)
  refine wpAny_pure ?_
  rw [if_neg (by decide)]
  refine wpAny_pure ⟨plainId_quiet F.plain_extend_loop _, codeAny_extend_loopS W few _ notIn _ ys.size 0 _ _ _ rfl (Nat.zero_le _) ⟨Nat.zero_le _, by rw [e0]; exact ri, li⟩ eS (ItemsOf.nil _) fun s' acc c' mv eS' got => ?_⟩
  rw [Moved.eq_with mv]
  refine fin s'.heap s'.toks acc c' (fun b o n1 n2 e => mv.heap b o (fun m => ?_) e) eS' got
  rcases List.mem_cons.mp m with q | m
  · exact n1 q
  · exact n2 (List.mem_singleton.mp m)
theorem back_init {Rr : Result → Shared → Prop} (calm : A.handled = none) (ri : s.heap.IsRevIter it l ((ys.size : Int) - 1)) (li : s.heap.IsList l ys) (ne : l ≠ it) (few : ys.size ≤ sizeLine)
    (S : Addr) (Si : S ≠ it) (Sl : S ≠ l) (eS : s.heap.get? S = some { cls := .type "list", data := .seq #[] })
    (fin : ∀ h' tk acc c', (∀ b o, b ≠ S → b ≠ it → s.heap.get? b = some o → h'.get? b = some o) → h'.get? S = some { cls := .type "list", dict := none, data := .seq acc c', slots := #[] } → BackOf ys acc →
      Rr (.ok (.ret .none)) { s with heap := h', toks := tk }) :
    wpAny (model prog w) A.in1 (Builtin.«list.__init__» ⟨[.ref S, .ref it], []⟩)
      (fun z s' => match z with | .done f => Rr (.ok f) s' | .again c' => c'.quiet = true ∧ codeAny (model prog w) A c' Rr s') (fun e s' => Rr (.error e) s') s := by
  refine (show wpAny _ _ (do let old ← Builtin.List.listItems (.ref S); Builtin.List.listUpdate (.ref S) (fun _ => #[]); letGo old.toList.reverse; Builtin.List.listExtendWith (.ref S) (.ref it) .none) _ _ s from ?_)
  refine wpAny_bind ?_
  unfold Builtin.List.listItems
  refine wpAny_bind (wpAny_seqItems eS rfl (wpAny_pure ?_))
  refine (show wpAny _ _ (updateSeq S (fun _ => #[]) >>= fun _ => letGo (#[] : Array Value).toList.reverse >>= fun _ => Builtin.List.listExtendWith (.ref S) (.ref it) .none) _ _ s from ?_)
  refine wpAny_bind (wpAny_updateSeq eS rfl ?_)
  have eS2 := Heap.get?_update_self (Obj.mapSeq (fun _ => (#[] : Array Value))) eS rfl
  have rest : ∀ b o, b ≠ S → s.heap.get? b = some o → (s.heap.update S (Obj.mapSeq (fun _ => (#[] : Array Value)))).get? b = some o :=
    fun b o n e => (Heap.get?_update_other _ _ n.symm).trans e
  refine wpAny_bind (wpAny_letGo ?_)
  refine back_extend calm (ri.at fun o e => rest it o Si.symm e) ?_ ne few S Si Sl .none _ eS2 fun h' tk acc c' k eS' got => ?_
  · obtain ⟨o, e, c, n, d⟩ := li
    exact ⟨o, rest l o Sl.symm e, c, n, d⟩
  · exact fin h' tk acc c' (fun b o n1 n2 e => k b o n1 n2 (rest b o n1 e)) eS' got
theorem back_list {Q : Value → Shared → Prop} (calm : A.handled = none) (ri : s.heap.IsRevIter it l ((ys.size : Int) - 1)) (li : s.heap.IsList l ys) (ne : l ≠ it) (few : ys.size ≤ sizeLine)
    (fin : ∀ h' tk acc c', (∀ b o, b ≠ it → s.heap.get? b = some o → h'.get? b = some o) → h'.get? s.heap.objs.size = some { cls := .type "list", dict := none, data := .seq acc c', slots := #[] } → BackOf ys acc →
      Q (.ref s.heap.objs.size) { s with heap := h', toks := tk }) : wpAny (model prog w) A (call (.type "list") [.ref it]) Q E s := by
  refine callType_codes (Q₁ := fun obj s1 => obj = .ref s.heap.objs.size ∧ s1 = { s with heap := s.heap.push { cls := .type "list", data := .seq #[] } }) F.called_list (F.typeCall_list_1 _) F.entry_list_init
    (code_list_new _ ⟨rfl, rfl⟩) fun obj s1 h1 => ?_
  obtain ⟨rfl, rfl⟩ := h1
  obtain ⟨oi, hoi, _⟩ := id ri
  obtain ⟨ol, hol, _⟩ := id li
  have eS : (s.heap.push { cls := .type "list", data := .seq #[] }).get? s.heap.objs.size = some { cls := .type "list", data := .seq #[] } := Heap.get?_push_size _ rfl
  refine ⟨⟨_, eS, rfl⟩, F.args_list_init_2 _ _, back_init (A := A.in1) calm (ri.at fun o e => Heap.get?_push_of_some _ e) (li.push _) ne few _ (Nat.ne_of_gt (Heap.lt_size hoi)) (Nat.ne_of_gt (Heap.lt_size hol)) eS fun h' tk acc c' k eS' got => ?_⟩
  exact ⟨rfl, fin h' tk acc c' (fun b o n e => k b o (Nat.ne_of_lt (Heap.lt_size e)) n (Heap.get?_push_of_some _ e)) eS' got⟩
end
section
variable {X : Cx}
/-- list(reversed(x)), x a list: a new list -/
def tLstRev (K : PySem.W.Frag) (te : TE) : TE := fun σ H Q => te σ H fun v H1 => ∃ (a : Addr) (xs : List V), v = .ref a ∧ SqL K H1 a xs ∧ ∀ q, H1 q = none → Q (.ref q) (upd H1 q (.lst xs.reverse))
theorem pe_lstRev {e : Expr} {te : TE} {p p2 pos pos2 : Pos} (calm : X.calm = true) (g1 : Gl X "list") (m1 : X.mg "list" = none) (g2 : Gl X "reversed") (m2 : X.mg "reversed" = none) (he : PE X e te)
    (n1 : starEach [e] X.env = (false, eval e X.env) :: starEach [] X.env := by rfl)
    (n2 : starEach [.Call (.Name "reversed" p2) [e] [] pos2] X.env = (false, eval (.Call (.Name "reversed" p2) [e] [] pos2) X.env) :: starEach [] X.env := by rfl) :
    PE X (.Call (.Name "list" p) [.Call (.Name "reversed" p2) [e] [] pos2] [] pos) (tLstRev X.K te) := by
  refine ⟨fun pins s σ H Q I h => ?_⟩
  refine Call_ (ld_blt I g1 m1 boot_list (PyProof.Rows.callWith_type1 (args_cons (Call_ (ld_blt I g2 m2 PyProof.Rows.boot_reversed (PyProof.Rows.callWith_type1 (args_cons (thn (he.run pins s σ H _ I h) fun u r1 ⟨v, H1, J, ru, want⟩ => args_nil ?_) n1) n1 rfl))) n2) n2 rfl))
  obtain ⟨a, xs, rfl, sq, q⟩ := want
  obtain rfl : u = Value.ref a := ru
  obtain ⟨its, rv, pl, hz⟩ := J.list sq
  refine call_reversed_list pl.isList (args_nil ?_)
  have k0 : ∀ b o, r1.heap.get? b = some o → (r1.heap.push (revObj a ((its.toArray.size : Int) - 1))).get? b = some o := fun b o e => Heap.get?_push_of_some _ e
  have J2 : Inv X pins σ H1 { r1 with heap := r1.heap.push (revObj a ((its.toArray.size : Int) - 1)) } := J.kept (t' := r1.toks) k0
  obtain ⟨f0, f1, f2, f3, f4, f5⟩ := J.fpOk (H' := H1) (b := r1.heap.objs.size) (Nat.le_refl _) (J.hok.fresh (Nat.le_refl _))
  have li := pl.isList
  obtain ⟨ol, hol, _⟩ := id li
  have ne : a ≠ r1.heap.objs.size := Nat.ne_of_lt (Heap.lt_size hol)
  have few : its.toArray.size ≤ sizeLine := by rw [List.size_toArray, ← rv.length]; exact hz
  have sz : (r1.heap.push (revObj a ((its.toArray.size : Int) - 1))).objs.size = r1.heap.objs.size + 1 := Heap.size_push ..
  have no : H1 (r1.heap.objs.size + 1) = none := J.hok.fresh (Nat.le_succ _)
  refine back_list (s := { r1 with heap := r1.heap.push (revObj a ((its.toArray.size : Int) - 1)) }) (J.ok.hd calm) ⟨_, Heap.get?_push_size _ rfl, rfl, rfl⟩ (li.push _) ne few fun h' tk acc c' k eS got => ?_
  have rest : acc.toList = its.reverse := by
    have hs : its.toArray.size = its.length := List.size_toArray
    have hl : acc.toList.length = its.length := by rw [Array.length_toList, got.1, hs]
    apply List.ext_getElem?
    intro j
    by_cases hj : j < its.length
    · have hja : j < acc.toList.length := by omega
      have e1 : acc.toList[j]? = some acc.toList[j] := List.getElem?_eq_getElem hja
      have e2 : its.toArray[its.toArray.size - 1 - j]? = some acc.toList[j] := got.2 j _ (by rw [← Array.getElem?_toList]; exact e1)
      rw [e1, List.getElem?_reverse hj, ← e2, hs]
      simp
    · rw [List.getElem?_eq_none (by omega), List.getElem?_eq_none (by rw [List.length_reverse]; omega)]
  have J3 := J2.turnedNew (h' := h') (t' := tk) (ch := [r1.heap.objs.size]) (T := (r1.heap.push (revObj a ((its.toArray.size : Int) - 1))).objs.size) (ob := .lst xs.reverse) (fun b o n e => k b o (fun z => n (by rw [z]; exact List.mem_singleton.mpr rfl)) e)
    (fun b hb => by
      obtain rfl := List.mem_singleton.mp hb
      exact ⟨f0, f1, f2, f3, f4, f5⟩) (Nat.le_refl _) (show ObjOk X.prog X.w _ _ _ (.lst xs.reverse) from ⟨by rw [List.length_reverse]; exact hz, acc.toList, c', by rw [rest]; exact rv.reverse, by rw [Array.toArray_toList]; exact eS⟩)
  exact ⟨.ref _, _, J3, rfl, q _ (J2.hok.fresh (Nat.le_refl _))⟩
/-! ### list(range(i, j, c)) -/
def steps (i c : Int) (n : Nat) : List V := (List.range n).map fun k => V.int (i + (k : Nat) * c)
theorem vals_steps {i c : Int} {n : Nat} {acc : Array Value} (h : ItemsOf (fun k v => ∃ t, v = .int (i + k * c) t) acc n) : Vals (steps i c n) acc.toList := by
  have e : acc.toList.length = n := by rw [Array.length_toList]; exact h.1
  unfold steps
  rw [← e]
  refine vals_of_get acc.toList _ fun j u hj => ?_
  obtain ⟨t, rfl⟩ := h.2 j u (by rw [← hj, Array.getElem?_toList])
  exact ⟨t, rfl⟩
def tLstStep (ta : TA) : TE := fun σ H Q => ta σ H fun vs H1 => ∃ (i j c : Int) (n : Nat), vs = [.int i, .int j, .int c] ∧ RgC i j c n ∧ n ≤ 16777216 ∧ ∀ q, H1 q = none → Q (.ref q) (upd H1 q (.lst (steps i c n)))
theorem pe_lstStep {a b c : Expr} {ta : TA} {p p2 pos pos2 : Pos} (calm : X.calm = true) (g1 : Gl X "list") (m1 : X.mg "list" = none) (g2 : Gl X "range") (m2 : X.mg "range" = none) (ha : PA X [a, b, c] ta)
    (n1 : starEach [a, b, c] X.env = (false, eval a X.env) :: starEach [b, c] X.env := by rfl) (n2 : (backTo pos2 (starEach [b, c] X.env)).any (·.1) = false := by rfl)
    (n3 : starEach [.Call (.Name "range" p2) [a, b, c] [] pos2] X.env = (false, eval (.Call (.Name "range" p2) [a, b, c] [] pos2) X.env) :: starEach [] X.env := by rfl) :
    PE X (.Call (.Name "list" p) [.Call (.Name "range" p2) [a, b, c] [] pos2] [] pos) (tLstStep ta) := by
  refine ⟨fun pins s σ H Q I h => ?_⟩
  refine Call_ (ld_blt I g1 m1 boot_list (PyProof.Rows.callWith_type1 (args_cons (Call_ (ld_blt I g2 m2 boot_range (PyProof.Rows.callWith_type1 (thn (ha.run pos2 pins s σ H _ I h) fun us r1 ⟨vs, H1, J, rv, want⟩ => ?_) n1 n2))) n3) n3))
  obtain ⟨i, j, k, n, rfl, ⟨c0, c1, c2, c3⟩, few, q⟩ := want
  cases rv with
  | cons r rr =>
    cases rr with
    | cons r' rr =>
      cases rr with
      | cons r'' rr =>
        cases rr
        obtain ⟨t, rfl⟩ := r
        obtain ⟨t', rfl⟩ := r'
        obtain ⟨t'', rfl⟩ := r''
        refine call_range_3 c0 (args_nil ?_) (.inl (PyProof.noPylong_small c1))
        have J2 : Inv X pins σ H1 { r1 with heap := r1.heap.push { cls := .type "range", data := .fields #[.int i t, .int j t', .int k t''] } } := J.kept (t' := r1.toks) fun b o e => Heap.get?_push_of_some _ e
        refine call_list_range (n := n) (J.ok.hd calm) (IsRange.new ..) c2 c3 (by omega) fun h' tk acc c' keep eS got => ?_
        refine ⟨.ref _, _, J2.laid (t' := tk) (o := .lst (steps i k n)) keep (Nat.le_refl _) ⟨?_, acc.toList, c', vals_steps got, ?_⟩, rfl, q _ (J2.hok.fresh (Nat.le_refl _))⟩
        · unfold steps
          rw [List.length_map, List.length_range, sizeLine_eq]
          exact few
        · rw [Array.toArray_toList]
          exact eS
/-- for x in xs, a list or a tuple -/
def iSeq (K : PySem.W.Frag) (tl : TE) : TI := fun σ H R => tl σ H fun x H1 => ∃ a, x = .ref a ∧ (((∃ xs, SqL K H1 a xs) ∧ R (Itl K a) H1) ∨ ((∃ xs, SqT K H1 a xs) ∧ R (Itt K a) H1))
theorem pi_seq {tg l : Expr} {tl : TE} (hl : PE X l tl) : PI X tg l (iSeq X.K tl) := by
  refine ⟨fun pins s σ H R I h => ?_⟩
  refine thn (hl.run pins s σ H _ I h) fun v s1 ⟨x, H1, J, rv, want⟩ => ?_
  obtain ⟨a, rfl, want⟩ := want
  obtain rfl : v = Value.ref a := rv
  have fresh : ∀ ob : Obj, ∀ b ∈ [s1.heap.objs.size], FpOk X pins H1 b := fun ob b hb => by
    obtain rfl := List.mem_singleton.mp hb
    exact J.fpOk (Nat.le_refl _) (J.hok.fresh (Nat.le_refl _))
  rcases want with ⟨⟨xs, sq⟩, q⟩ | ⟨⟨xs, sq⟩, q⟩
  · obtain ⟨its, rs, pl, _⟩ := J.list sq
    refine wpAny_pyIter_list pl.isList ?_
    exact ⟨s1.heap.objs.size, [s1.heap.objs.size], _, _, H1, rfl, J.kept (t' := s1.toks) fun b o e => Heap.get?_push_of_some _ e, turn_list a _, ⟨_, Heap.get?_push_size _ rfl, rfl, rfl⟩, fresh default, q⟩
  · obtain ⟨its, rs, pl, _⟩ := J.tuple sq
    refine wpAny_pyIter_tuple (show s1.heap.IsTuple a its.toArray from pl) ?_
    exact ⟨s1.heap.objs.size, [s1.heap.objs.size], _, _, H1, rfl, J.kept (t' := s1.toks) fun b o e => Heap.get?_push_of_some _ e, turn_tuple a _, ⟨_, Heap.get?_push_size _ rfl, rfl, rfl⟩, fresh default, q⟩
/-- isinstance(x, (list, tuple)) -/
inductive IsSeq (K : PySem.W.Frag) (H : Hp) : V → Bool → Prop
  | non : IsSeq K H .non false
  | bl (b : Bool) : IsSeq K H (.bl b) false
  | int (i : Int) : IsSeq K H (.int i) false
  | str (z : Str) : IsSeq K H (.str z) false
  | lst {a : Addr} (h : TyX K H (.ref a) (.type "list")) : IsSeq K H (.ref a) true
  | tup {a : Addr} (h : TyX K H (.ref a) (.type "tuple")) : IsSeq K H (.ref a) true
  | dct {a : Addr} (h : TyX K H (.ref a) (.type "dict")) : IsSeq K H (.ref a) false
theorem kit_lt {K : PySem.W.Frag} {a : String} {x y r : Bool} (h1 : kitB a "list" = some x) (h2 : kitB a "tuple" = some y) (e : r = (x || y)) : PySem.W.kitAny K (.type a) [.type "list", .type "tuple"] = some r := by
  refine kitAny_cons (kit_ty h1) (fun z => ?_) (fun z => by rw [e, z]; rfl)
  refine kitAny_cons (kit_ty h2) (fun z2 => ?_) (fun z2 => by rw [e, z2, Bool.or_true])
  rw [e, z, z2]
  exact kitAny_nil
theorem isi_seq {K : PySem.W.Frag} {H : Hp} {x : V} {b : Bool} {tp : Addr} {Q : VK} (ht : H tp = some (.tup [.ty "list", .ty "tuple"])) (h : IsSeq K H x b) (q : Q (.bl b) H) : rIsiT K [x, .ref tp] H Q := by
  have two : Paired ClsV [.ty "list", .ty "tuple"] [.type "list", .type "tuple"] := .cons (.ty _) (.cons (.ty _) .nil)
  cases h with
  | non => exact ⟨_, _, _, _, _, _, rfl, ht, two, .base .non, kit_lt (x := false) (y := false) (by decide +kernel) (by decide +kernel) rfl, q⟩
  | bl b => exact ⟨_, _, _, _, _, _, rfl, ht, two, .base (.bl b), kit_lt (x := false) (y := false) (by decide +kernel) (by decide +kernel) rfl, q⟩
  | int i => exact ⟨_, _, _, _, _, _, rfl, ht, two, .base (.int i), kit_lt (x := false) (y := false) (by decide +kernel) (by decide +kernel) rfl, q⟩
  | str z => exact ⟨_, _, _, _, _, _, rfl, ht, two, .base (.str z), kit_lt (x := false) (y := false) (by decide +kernel) (by decide +kernel) rfl, q⟩
  | lst h => exact ⟨_, _, _, _, _, _, rfl, ht, two, h, kit_lt (x := true) (y := false) (by decide +kernel) (by decide +kernel) rfl, q⟩
  | tup h => exact ⟨_, _, _, _, _, _, rfl, ht, two, h, kit_lt (x := false) (y := true) (by decide +kernel) (by decide +kernel) rfl, q⟩
  | dct h => exact ⟨_, _, _, _, _, _, rfl, ht, two, h, kit_lt (x := false) (y := false) (by decide +kernel) (by decide +kernel) rfl, q⟩
theorem call_is_seq : CallR X (.builtin "isinstance") (fun xs H Q => ∃ x tp b, xs = [x, .ref tp] ∧ H tp = some (.tup [.ty "list", .ty "tuple"]) ∧ IsSeq X.K H x b ∧ Q (.bl b) H) := by
  intro pins s σ H xs us Q I r ⟨x, tp, b, e, ht, th, q⟩
  subst e
  exact call_isiT pins s σ H _ us Q I r (isi_seq ht th q)
theorem IsSeq.keep {K : PySem.W.Frag} {H H' : Hp} {x : V} {b : Bool} (k : Keep H H') (h : IsSeq K H x b) : IsSeq K H' x b := by
  cases h with
  | non => exact .non
  | bl b => exact .bl b
  | int i => exact .int i
  | str z => exact .str z
  | lst h => exact .lst (tyX_keep k h)
  | tup h => exact .tup (tyX_keep k h)
  | dct h => exact .dct (tyX_keep k h)
end
theorem op_in_seqK {X : Cx} {K : PySem.W.Frag} (h : X.K = K) : OpR X (compareOp .In) (rIn K false) := by
  rw [← h]
  exact op_in_seq
/-- the same in a comprehension's frame -/
theorem pg_tupK {X : Cx} {K : PySem.W.Frag} {es : List Expr} {k : Nat} {t : TGs} {n : Nat} {pos : Pos} (hK : X.K = K) (hc : X.calm = true) (h : PGs X es t)
    (hn : (assignEach es X.env).length = n := by rfl) (hst : (assignEach es X.env).findIdx? (·.1) = none := by rfl) : PG X (.Tuple es k pos) (gTup K n t) := by
  rw [← hK]
  exact pg_tup hc h hn hst
end LL
namespace LL
open PySem PySem.Spec PyProof.Rows L2
/-! ### a row's numbers, one by one -/
theorem filt_gap {S : Nat → Bool} {x y : Nat} (h : x ≤ y) (no : ∀ n, x ≤ n → n < y → S n = false) : (List.range y).filter S = (List.range x).filter S := by
  obtain ⟨d, rfl⟩ := Nat.exists_eq_add_of_le h
  clear h
  induction d with
  | zero => rfl
  | succ d ih =>
    rw [← Nat.add_assoc, List.range_succ, List.filter_append, ih (fun n a b => no n a (by omega))]
    rw [List.filter_cons_of_neg (by rw [no (x + d) (by omega) (by omega)]; exact Bool.false_ne_true), List.filter_nil, List.append_nil]
theorem filt_one {S : Nat → Bool} {n : Nat} (h : S n = true) : (List.range (n + 1)).filter S = (List.range n).filter S ++ [n] := by
  rw [List.range_succ, List.filter_append, List.filter_cons_of_pos h, List.filter_nil]
def numsOf (r : List Pr) : List Nat := (List.range 400).filter (has r)
theorem TidyFrom.split : ∀ {r1 : List Pr} {b : Nat} {z : Pr} {r2 : List Pr}, TidyFrom b (r1 ++ z :: r2) → (∀ y ∈ r1, y.2 < z.1) ∧ z.1 < z.2 ∧ z.2 ≤ 400 ∧ TidyFrom (z.2 + 1) r2
  | [], _, z, r2, ⟨_, h2, h3, h4⟩ => ⟨(fun y hy => nomatch hy), h2, h3, h4⟩
  | w :: r1, b, z, r2, ⟨h1, h2, h3, h4⟩ => by
    obtain ⟨a1, a2, a3, a4⟩ := TidyFrom.split (r1 := r1) h4
    refine ⟨fun y hy => ?_, a2, a3, a4⟩
    rcases List.mem_cons.mp hy with rfl | hy
    · have : has (r1 ++ z :: r2) z.1 = true := by rw [has_app, has_cons, decide_eq_true (Nat.le_refl _), decide_eq_true a2]; simp
      have := (h4.low this).1
      omega
    · exact a1 y hy
theorem has_over {r : List Pr} {n : Nat} (h : ∀ y ∈ r, y.2 ≤ n) : has r n = false := by
  cases q : has r n with
  | false => rfl
  | true =>
    obtain ⟨y, hy, q⟩ := List.any_eq_true.mp q
    have q := of_decide_eq_true (Bool.and_eq_true_iff.mp q).2
    have := h y hy
    omega
/-- where the i-th stretch begins, or the end -/
def upTo (r : List Pr) (i : Nat) : Nat := match r[i]? with | some z => z.1 | none => 400
theorem upTo_gap {r : List Pr} {i : Nat} {z : Pr} (h : Tidy r) (e : r[i]? = some z) : z.2 ≤ upTo r (i + 1) ∧ ∀ n, z.2 ≤ n → n < upTo r (i + 1) → has r n = false := by
  obtain ⟨hi, rfl⟩ := List.getElem?_eq_some_iff.mp e
  have sp : r = r.take i ++ r[i] :: r.drop (i + 1) := by
    rw [← List.drop_eq_getElem_cons hi, List.take_append_drop]
  have h' := h
  rw [sp] at h'
  obtain ⟨a1, a2, a3, a4⟩ := TidyFrom.split (b := 0) h'
  have get : r[i + 1]? = (r.drop (i + 1))[0]? := by rw [List.getElem?_drop]
  unfold upTo
  rw [get]
  cases q : r.drop (i + 1) with
  | nil =>
    refine ⟨a3, fun n l _ => ?_⟩
    rw [sp, has_app, has_cons, q, has_nil, has_over (fun y hy => Nat.le_of_lt (Nat.lt_of_lt_of_le (a1 y hy) (by omega))), decide_eq_false (show ¬ n < r[i].2 by omega), Bool.and_false]
    rfl
  | cons w t =>
    rw [q] at a4
    obtain ⟨b1, b2, b3, b4⟩ := a4
    refine ⟨Nat.le_of_succ_le b1, fun n l u => ?_⟩
    have u : n < w.1 := u
    have no : has (w :: t) n = false := TidyFrom.none (b := w.1) (r := w :: t) ⟨Nat.le_refl _, b2, b3, b4⟩ u
    rw [sp, has_app, has_cons, q, no, has_over (fun y hy => by have := a1 y hy; omega), decide_eq_false (show ¬ n < r[i].2 by omega), Bool.and_false]
    rfl
theorem upTo_first {r : List Pr} (h : Tidy r) : ∀ n, n < upTo r 0 → has r n = false := fun n l => by
  cases r with
  | nil => rfl
  | cons z r =>
    obtain ⟨h1, h2, h3, h4⟩ := h
    exact TidyFrom.none (b := z.1) (r := z :: r) ⟨Nat.le_refl _, h2, h3, h4⟩ l
theorem upTo_in {r : List Pr} {i : Nat} {z : Pr} (e : r[i]? = some z) : upTo r i = z.1 := by
  unfold upTo
  rw [e]
theorem upTo_end {r : List Pr} : upTo r r.length = 400 := by
  unfold upTo
  rw [List.getElem?_eq_none (Nat.le_refl _)]
theorem has_at {r : List Pr} {i : Nat} {z : Pr} {n : Nat} (e : r[i]? = some z) (l : z.1 ≤ n) (u : n < z.2) : has r n = true :=
  List.any_eq_true.mpr ⟨z, List.mem_of_getElem? e, by rw [decide_eq_true l, decide_eq_true u]; rfl⟩
/-! ### [e for x in xs for y in range(..)] -/
theorem lc2_rows {K : PySem.W.Frag} {a : Addr} {xs : List V} {g g1 : TG} {tt tt1 : TT} {wi1 : TI} {te : TE} {vs vs1 : List Nat} {σ : L2.St} {H1 : Hp} {D : Addr} {Qd : Hp → Prop} (J : Nat → Hp → Prop) (first : J 0 (upd H1 D (.lst []))) (still : ∀ i H, i ≤ xs.length → J i H → SqL K H a xs)
    (turn : ∀ i x H, xs[i]? = some x → J i H → g x (wipe σ vs) H fun σ2 H2 => wipe σ2 vs = wipe σ vs ∧ tt σ2 H2 fun b H3 =>
      if b = true then wi1 σ2 H3 fun J1 H4 => ∃ W1 : Nat → Nat → Hp → Prop, (∃ m, W1 0 m H4) ∧ ∀ j k H, W1 j k H →
        (J1.stop j H ∧ J (i + 1) H) ∨ (J1.go j H ∧ ∃ Nx1 : Hp → Prop, (∀ H', Nx1 H' → ∃ k', k' < k ∧ W1 (j + 1) k' H') ∧ ∀ x H', J1.yld j H x H' → g1 x (wipe σ2 vs1) H' fun σ3 H5 => wipe σ3 vs1 = wipe σ2 vs1 ∧ tt1 σ3 H5 fun b H6 =>
          if b = true then te σ3 H6 fun y H7 => ∃ acc, H7 D = some (.lst acc) ∧ acc.length < sizeLine ∧ Nx1 (upd H7 D (.lst (acc ++ [y]))) else Nx1 H6)
      else J (i + 1) H3) (last : ∀ H, J xs.length H → Qd H) :
    ∃ W : Nat → Nat → Hp → Prop, (∃ m, W 0 m (upd H1 D (.lst []))) ∧ ∀ i m H, W i m H →
      ((Itl K a).stop i H ∧ Qd H) ∨ ((Itl K a).go i H ∧ ∃ Nx : Hp → Prop, (∀ H', Nx H' → ∃ m', m' < m ∧ W (i + 1) m' H') ∧ ∀ x H', (Itl K a).yld i H x H' → g x (wipe σ vs) H' fun σ2 H2 => wipe σ2 vs = wipe σ vs ∧ tt σ2 H2 fun b H3 =>
        if b = true then wi1 σ2 H3 fun J1 H4 => ∃ W1 : Nat → Nat → Hp → Prop, (∃ m, W1 0 m H4) ∧ ∀ j k H, W1 j k H →
          (J1.stop j H ∧ Nx H) ∨ (J1.go j H ∧ ∃ Nx1 : Hp → Prop, (∀ H', Nx1 H' → ∃ k', k' < k ∧ W1 (j + 1) k' H') ∧ ∀ x H', J1.yld j H x H' → g1 x (wipe σ2 vs1) H' fun σ3 H5 => wipe σ3 vs1 = wipe σ2 vs1 ∧ tt1 σ3 H5 fun b H6 =>
            if b = true then te σ3 H6 fun y H7 => ∃ acc, H7 D = some (.lst acc) ∧ acc.length < sizeLine ∧ Nx1 (upd H7 D (.lst (acc ++ [y]))) else Nx1 H6)
        else Nx H3) := by
  refine ⟨fun i m H => m = xs.length - i ∧ i ≤ xs.length ∧ J i H, ⟨xs.length, by simp, Nat.zero_le _, first⟩, ?_⟩
  rintro i m H ⟨rfl, le, j⟩
  have sq := still i H le j
  rcases Nat.lt_or_ge i xs.length with lt | ge
  · refine .inr ⟨⟨xs, xs[i], sq, by simp [lt]⟩, J (i + 1), fun H' j' => ⟨xs.length - (i + 1), by omega, rfl, lt, j'⟩, fun x H' y => ?_⟩
    obtain ⟨rfl, y⟩ := y
    exact turn i x _ (y xs sq) j
  · obtain rfl : i = xs.length := by omega
    exact .inl ⟨⟨xs, sq, Nat.le_refl _⟩, last H j⟩
theorem lc2_nums {lo : Int} {n : Nat} {g1 : TG} {tt1 : TT} {te : TE} {vs1 : List Nat} {σ2 : L2.St} {H4 : Hp} {D : Addr} {Nx : Hp → Prop} (J : Nat → Hp → Prop) (first : J 0 H4)
    (turn : ∀ j H, j < n → J j H → g1 (.int (lo + (j : Nat))) (wipe σ2 vs1) H fun σ3 H5 => wipe σ3 vs1 = wipe σ2 vs1 ∧ tt1 σ3 H5 fun b H6 =>
      if b = true then te σ3 H6 fun y H7 => ∃ acc, H7 D = some (.lst acc) ∧ acc.length < sizeLine ∧ J (j + 1) (upd H7 D (.lst (acc ++ [y]))) else J (j + 1) H6) (last : ∀ H, J n H → Nx H) :
    ∃ W1 : Nat → Nat → Hp → Prop, (∃ m, W1 0 m H4) ∧ ∀ j k H, W1 j k H →
      ((Itr lo n).stop j H ∧ Nx H) ∨ ((Itr lo n).go j H ∧ ∃ Nx1 : Hp → Prop, (∀ H', Nx1 H' → ∃ k', k' < k ∧ W1 (j + 1) k' H') ∧ ∀ x H', (Itr lo n).yld j H x H' → g1 x (wipe σ2 vs1) H' fun σ3 H5 => wipe σ3 vs1 = wipe σ2 vs1 ∧ tt1 σ3 H5 fun b H6 =>
        if b = true then te σ3 H6 fun y H7 => ∃ acc, H7 D = some (.lst acc) ∧ acc.length < sizeLine ∧ Nx1 (upd H7 D (.lst (acc ++ [y]))) else Nx1 H6) := by
  refine ⟨fun i m H => m = n - i ∧ i ≤ n ∧ J i H, ⟨n, by simp, Nat.zero_le _, first⟩, ?_⟩
  rintro i m H ⟨rfl, le, j⟩
  rcases Nat.lt_or_ge i n with lt | ge
  · refine .inr ⟨lt, J (i + 1), fun H' j' => ⟨n - (i + 1), by omega, rfl, lt, j'⟩, fun x H' y => ?_⟩
    obtain ⟨rfl, rfl⟩ := y
    exact turn i _ lt j
  · obtain rfl : i = n := by omega
    exact .inl ⟨Nat.le_refl _, last H j⟩
/-! ### lists of whole numbers as data -/
def natDat (ns : List Nat) : PyData := .list (ns.map fun n : Nat => .int (n : Int))
theorem nat_dpA {K : PySem.W.Frag} {H : Hp} : ∀ ns : List Nat, DpAll K H (ns.map fun n : Nat => V.int (n : Int)) (ns.map fun n : Nat => PyData.int (n : Int))
  | [] => .nil
  | n :: ns => .cons (.int _) (nat_dpA ns)
theorem nat_dp {K : PySem.W.Frag} {H : Hp} {a : Addr} {ns : List Nat} (e : H a = some (.lst (ns.map fun n : Nat => V.int (n : Int)))) : Dp K H (.ref a) (natDat ns) := .lst (SqL.of e) (nat_dpA ns)
theorem natDat_eqv (ns ms : List Nat) : PyData.eqv (natDat ns) (natDat ms) = decide (ns = ms) := by
  have all : ∀ ns ms : List Nat, PyData.eqvAll (ns.map fun n : Nat => PyData.int (n : Int)) (ms.map fun n : Nat => PyData.int (n : Int)) = decide (ns = ms) := by
    intro ns
    induction ns with
    | nil =>
      intro ms
      cases ms <;> simp [PyData.eqvAll]
    | cons n ns ih =>
      intro ms
      cases ms with
      | nil => simp [PyData.eqvAll]
      | cons m ms =>
        simp only [List.map_cons, PyData.eqvAll, PyData.eqv]
        rw [ih, Bool.eq_iff_iff]
        simp
        exact fun _ => by omega
  simp only [natDat, PyData.eqv]
  exact all ns ms
theorem natDat_shaped (ns : List Nat) : SeqAt.shaped (natDat ns) = true := by
  have lay : ∀ ns : List Nat, PyData.canLayAll0 (ns.map fun n : Nat => PyData.int (n : Int)) = true := by
    intro ns
    induction ns with
    | nil => simp [PyData.canLayAll0]
    | cons n ns ih => simp [PyData.canLayAll0, PyData.canLay0, ih]
  have dep : ∀ ns : List Nat, PyData.depthAll (ns.map fun n : Nat => PyData.int (n : Int)) = 0 := by
    intro ns
    induction ns with
    | nil => simp [PyData.depthAll]
    | cons n ns ih => simp [PyData.depthAll, PyData.depth, ih]
  show (PyData.canLay0 (natDat ns) && decide (PyData.depth (natDat ns) ≤ 64)) = true
  rw [Bool.and_eq_true]
  refine ⟨by simp only [natDat, PyData.canLay0]; exact lay ns, decide_eq_true ?_⟩
  simp only [natDat, PyData.depth]
  rw [dep]
  decide
/-- a list or a tuple of whole numbers -/
def NumSq (H : Hp) (a : Addr) (ns : List Nat) : Prop := H a = some (.lst (ns.map fun n : Nat => V.int (n : Int))) ∨ H a = some (.tup (ns.map fun n : Nat => V.int (n : Int)))
theorem NumSq.keep {a : Addr} {H H' : Hp} {ns : List Nat} (k : Keep H H') (h : NumSq H a ns) : NumSq H' a ns := by
  rcases h with e | e
  · exact .inl (k _ _ (fun q z => by cases z) e)
  · exact .inr (k _ _ (fun q z => by cases z) e)
/-! ### a box and the table change, the rest is kept -/
structure Kb (a P : Addr) (H H' : Hp) : Prop where
  box : ∃ o, H' a = some o ∧ BoxO o
  tab : GxR.TabG H' P
  old : ∀ b o, b ≠ a → b ≠ P → H b = some o → H' b = some o
theorem box_tab {a P : Addr} {H : Hp} (b : ∃ o, H a = some o ∧ BoxO o) (t : GxR.TabG H P) : a ≠ P := by
  obtain ⟨o, e, x0, y0, z0, rfl, _⟩ := b
  exact tab_ne t e (fun q z => by cases z)
theorem Kb.refl {a P : Addr} {H : Hp} (b : ∃ o, H a = some o ∧ BoxO o) (t : GxR.TabG H P) : Kb a P H H := ⟨b, t, fun _ _ _ _ e => e⟩
theorem Kb.kept {a P : Addr} {H H1 H2 : Hp} (x : Kb a P H H1) (y : Kept a H1 H2) : Kb a P H H2 := ⟨y.box, y.tab x.box x.tab, fun b o n m e => y.old b o n (x.old b o n m e)⟩
theorem Kb.nw {a P : Addr} {H H1 H2 : Hp} (x : Kb a P H H1) (y : Nw P H1 H2) : Kb a P H H2 := by
  have n := box_tab x.box x.tab
  obtain ⟨o, e, b⟩ := x.box
  exact ⟨⟨o, y.old a o n e, b⟩, y.tab, fun c u m k q => y.old c u k (x.old c u m k q)⟩
theorem Kb.exd {a P : Addr} {H H1 H2 : Hp} (x : Kb a P H H1) (y : Exd H1 H2) : Kb a P H H2 := x.kept (y.kept x.box)
theorem Kb.trans {a P : Addr} {H H1 H2 : Hp} (x : Kb a P H H1) (y : Kb a P H1 H2) : Kb a P H H2 := ⟨y.box, y.tab, fun b o n m e => y.old b o n m (x.old b o n m e)⟩
theorem Kb.new {a P p : Addr} {H H1 : Hp} {u : HO} (x : Kb a P H H1) (hp : H1 p = none) : Kb a P H (L2.upd H1 p u) := x.exd ((Exd.refl _).new hp)
/-- what was new is changed -/
theorem Kb.put {a P p : Addr} {H H1 : Hp} {u o : HO} (x : Kb a P H H1) (hp : H p = none) (na : p ≠ a) (ho : H1 p = some o) (n : ∀ q, o ≠ .tbl q) : Kb a P H (L2.upd H1 p u) := by
  obtain ⟨o', e, b⟩ := x.box
  exact ⟨⟨o', by rw [upd_ne na.symm]; exact e, b⟩, tab_upd x.tab (fun z => tab_ne x.tab ho n z.symm), fun c v m k q => by rw [upd_ne (ne_of_none q hp)]; exact x.old c v m k q⟩
/-- a box that is new since H0 -/
theorem Kb.toNw {a P : Addr} {H0 H H' : Hp} (x : Kb a P H H') (n : Nw P H0 H) (h : H0 a = none) : Nw P H0 H' :=
  ⟨n.was, x.tab, fun c o m e => x.old c o (fun z => by rw [z, h] at e; cases e) m (n.old c o m e)⟩
theorem RowAt.neBox {a b : Addr} {H : Hp} {r : List Pr} (h : RowAt H b r) (bx : ∃ o, H a = some o ∧ BoxO o) : b ≠ a := fun z => by
  obtain ⟨o, e, x0, y0, z0, rfl, _⟩ := bx
  obtain ⟨qs, e1, p⟩ := h
  rw [z, e] at e1
  have := congrArg (fun u : Option HO => match u with | some (.lst (v :: _)) => some v | _ => none) e1
  cases qs with
  | nil => cases this
  | cons q qs => cases this
theorem PrsAt.kb {a P : Addr} {H H' : Hp} {qs : List Addr} {r : List Pr} (h : PrsAt H qs r) (bx : ∃ o, H a = some o ∧ BoxO o) (t : GxR.TabG H P) (x : Kb a P H H') : PrsAt H' qs r := by
  obtain ⟨o, e, x0, y0, z0, rfl, _⟩ := bx
  exact h.put fun q xs e2 => x.old q _ (fun z => by rw [z, e] at e2; cases e2) (tab_ne t e2 (fun q z => by cases z)) e2
theorem RowAt.kb {a b P : Addr} {H H' : Hp} {r : List Pr} (h : RowAt H b r) (bx : ∃ o, H a = some o ∧ BoxO o) (t : GxR.TabG H P) (x : Kb a P H H') : RowAt H' b r := by
  have nb := h.neBox bx
  obtain ⟨qs, e1, p⟩ := h
  exact ⟨qs, x.old b _ nb (tab_ne t e1 (fun q z => by cases z)) e1, p.kb bx t x⟩
theorem Kb.lst {a b P : Addr} {H H' : Hp} {xs : List V} (x : Kb a P H H') (t : GxR.TabG H P) (n : b ≠ a) (e : H b = some (.lst xs)) : H' b = some (.lst xs) := x.old b _ n (tab_ne t e (fun q z => by cases z)) e
theorem Kb.tup {a b P : Addr} {H H' : Hp} {xs : List V} (x : Kb a P H H') (t : GxR.TabG H P) (n : b ≠ a) (e : H b = some (.tup xs)) : H' b = some (.tup xs) := x.old b _ n (tab_ne t e (fun q z => by cases z)) e
theorem Kb.free {a b P : Addr} {H H' : Hp} (x : Kb a P H H') (e : H' b = none) : H b = none := by
  cases q : H b with
  | none => rfl
  | some o =>
    by_cases z : b = a
    · obtain ⟨o', e', _⟩ := x.box
      rw [z, e'] at e
      cases e
    · by_cases z2 : b = P
      · obtain ⟨ps, e2, _⟩ := x.tab
        rw [z2, e2] at e
        cases e
      · rw [x.old b o z z2 q] at e
        cases e
end LL
namespace LL
open PySem PySem.Spec PyProof.Rows L2
/-! ### try with several except clauses, named or not, one of which takes what is raised -/
abbrev SuT := Addr → Value → Option Addr → TS
inductive HdsA (X : Cx) : List ExceptHandler → List (Value × Option Nat × SuT) → Prop
  | nil : HdsA X [] []
  | plain {x : Str} {c : Value} {ts : SuT} {b₀ : Stmt} {suite : List Stmt} {np pos' : Pos} {hds : List ExceptHandler} {l : List (Value × Option Nat × SuT)} (hc : Names X x c)
      (hsu : ∀ (a : Addr) (oe : Obj) (cls : Value) (d : Option Addr) (pn : List (Addr × Obj)), Zc cls d oe → (∃ vs, oe.data = .fields vs) → PSs (X.suite a ((a, oe) :: pn)) (b₀ :: suite) (ts a cls d))
      (r : HdsA X hds l) : HdsA X (.ExceptHandler (some (.Name x np)) none (b₀ :: suite) pos' :: hds) ((c, none, ts) :: l)
  | named {x n : Str} {i : Nat} {c : Value} {ts : SuT} {b₀ : Stmt} {suite : List Stmt} {np pos' : Pos} {hds : List ExceptHandler} {l : List (Value × Option Nat × SuT)} (hi : X.N[i]? = some n) (hln : X.env.kindOf n = some .local) (hc : Names X x c)
      (hsu : ∀ (a : Addr) (oe : Obj) (cls : Value) (d : Option Addr) (pn : List (Addr × Obj)), Zc cls d oe → (∃ vs, oe.data = .fields vs) → PSs (X.suite a ((a, oe) :: pn)) (b₀ :: suite) (ts a cls d))
      (r : HdsA X hds l) : HdsA X (.ExceptHandler (some (.Name x np)) (some n) (b₀ :: suite) pos' :: hds) ((c, some i, ts) :: l)
/-- the ends of a suite behind which the name is gone -/
def endsGone (D : Ends) (i : Nat) : Ends := { nx := fun σ' H' => D.nx (σ'.set i none) H', rt := D.rt, bk := fun σ' H' => D.bk (σ'.set i none) H', ct := fun σ' H' => D.ct (σ'.set i none) H' }
def wManyA (K : PySem.W.Frag) (D : Ends) : List (Value × Option Nat × SuT) → WX
  | [] => fun _ _ _ _ => False
  | (c, none, ts) :: r => fun cls d σ H => ∃ b, PySem.W.exmOne K cls c = some b ∧ (b = true → ∀ a, H a = none → ts a cls d D σ H) ∧ (b = false → wManyA K D r cls d σ H)
  | (c, some i, ts) :: r => fun cls d σ H => ∃ b, PySem.W.exmOne K cls c = some b ∧ (b = true → ∀ a, H a = none → ts a cls d (endsGone D i) (σ.set i (some (.ref a))) H) ∧ (b = false → wManyA K D r cls d σ H)
theorem ps_try_manyA {X : Cx} {body : List Stmt} {h₀ : ExceptHandler} {hds : List ExceptHandler} {l : List (Value × Option Nat × SuT)} {pos : Pos} {tb : WX → TS}
    (hs : X.stack = X.env :: X.outer) (hf : X.env.frame = some X.env.locals) (hN : X.N.Nodup)
    (hb : ∀ (W : WX) (pn : List (Addr × Obj)) (xe : Value → Shared → Prop), Takes (X.tr pn xe) W → PassesOwn (model X.prog X.w) X.A X.env xe → PSs (X.tr pn xe) body (tb W))
    (hh : HdsA X (h₀ :: hds) l) : PS X (.Try body (h₀ :: hds) [] [] pos) fun D σ H => tb (wManyA X.K D l) D σ H := by
  refine ⟨fun pins s σ H D I h => ?_⟩
  have ok := I.ok
  have hfr : X.A.frames = some (X.env :: X.outer) := by rw [ok.frames, hs]
  refine wpAny_Try_except (wpAny_mono ((hb (wManyA X.K D l) (X.pn ++ pins) (fun e s₁ => wpAny (model X.prog X.w) X.A (noteFrame e X.env) (fun _ s₂ => wpAny (model X.prog X.w) X.A (setFlight e none)
    (fun _ s₃ => wpAny (model X.prog X.w) X.A (handleBy e X.env (h₀ :: hds)) (SP X pins D) X.xe s₃) X.xe s₂) X.xe s₁) ?_ PassesOwn.looking).run _ s σ H D (I.toTry _) h) (fun f s1 q => ?_) (fun _ _ e => e))
  · rintro u s' ⟨a, B, sI, pins', σ', H', cls, d, rfl, J', nb, up, sky, na, os, ag, w⟩
    have J := J'.ofTry ok
    have sky' : Sky B (X.env :: X.outer) a (Zc cls d) X.env.locals s'.heap := by
      rw [← hs]
      exact sky
    refine Sky.land Zc.steady hfr hf sky' fun h3 fl3 up3 => ?_
    have J3 := J.landed (s' := { heap := h3, gens := s'.gens, drawn := s'.drawn, toks := s'.toks, os := s'.os }) nb fl3.1 (up.trans up3) os ag
    have landed : ∀ {h : Heap}, HandSPX.FlyingZ B (X.env :: X.outer) a (Zc cls d) h → ∃ oe vs, h.get? a = some oe ∧ Zc cls d oe ∧ oe.data = .fields vs ∧ a ≠ X.env.locals ∧ a ∉ X.fs := by
      intro h fl
      obtain ⟨oe, vs, he, hz, hd⟩ := fl.there
      have nfr : a ∉ (X.env :: X.outer).filterMap (fun x => x.frame) := fun hm => by
        obtain ⟨_, o', e', hnf⟩ := fl.2.2.1.mem hm
        rw [he] at e'
        cases e'
        exact hnf vs hd
      refine ⟨oe, vs, he, hz, hd, fun z => nfr (List.mem_filterMap.mpr ⟨X.env, List.mem_cons_self, by rw [hf, z]⟩), fun hm => ?_⟩
      obtain ⟨e, he', q⟩ := List.mem_filterMap.mp hm
      exact nfr (List.mem_filterMap.mpr ⟨e, List.mem_cons_of_mem _ he', q⟩)
    obtain ⟨oe3, vs3, he3, hz3, hd3, nL, nF⟩ := landed fl3
    have S3 := J3.suite he3 hd3 na nL nF
    have back : ∀ {f : Flow} {s2 : Shared} {oe : Obj} {D2 : Ends}, SP (X.suite a ((a, oe) :: (X.pn ++ pins))) [] D2 f s2 → SP X pins D2 f s2 := by
      intro f s2 oe D2 q
      cases f with
      | next => obtain ⟨σ2, H2, I2, q⟩ := q; exact ⟨σ2, H2, I2.unsuite ok, q⟩
      | brk => obtain ⟨σ2, H2, I2, q⟩ := q; exact ⟨σ2, H2, I2.unsuite ok, q⟩
      | cont => obtain ⟨σ2, H2, I2, q⟩ := q; exact ⟨σ2, H2, I2.unsuite ok, q⟩
      | ret u => obtain ⟨v, σ2, H2, I2, r, q⟩ := q; exact ⟨v, σ2, H2, I2.unsuite ok, r, q⟩
    have LT : PySem.W.Looks (model X.prog X.w) h3 (typeOf (.ref a)) cls := fun A Q E s k q => wpAny_typeOf_ref (k a oe3 he3) (by rw [hz3.1]; exact q)
    -- a name of a class, looked up
    have look : ∀ {x : Str} {c : Value} {np : Pos} {Q : Value → Shared → Prop} {E : Value → Shared → Prop}, Names X x c → Q c { heap := h3, gens := s'.gens, drawn := s'.drawn, toks := s'.toks, os := s'.os } →
        wpAny (model X.prog X.w) (X.A.mark (some (.ref a))) (eval (.Name x np) X.env) Q E { heap := h3, gens := s'.gens, drawn := s'.drawn, toks := s'.toks, os := s'.os } := by
      rintro x c np Q E ⟨hg, hdbg, hm | ⟨hm, hv, hnn⟩⟩ q
      · exact ld_glob S3 hg hm q hdbg
      · exact ld_blt S3 hg hm hv q hnn hdbg
    have go : ∀ {hs2 : List ExceptHandler} {l2 : List (Value × Option Nat × SuT)}, HdsA X hs2 l2 → wManyA X.K D l2 cls d σ' H' →
        wpAny (model X.prog X.w) X.A (handleBy (.ref a) X.env hs2) (SP X pins D) X.xe { heap := h3, gens := s'.gens, drawn := s'.drawn, toks := s'.toks, os := s'.os } := by
      intro hs2 l2 hk
      induction hk with
      | nil => exact fun w => w.elim
      | @plain x c ts b₀ suite np pos' hds l hc hsu r ih =>
        rintro ⟨b, hb1, hyes, hno⟩
        refine wpAny_handleBy_cons (codeAny_handlers_test (look hc (PySem.W.Looks.here (PySem.W.exm_one J3.kIn LT hb1) ?_))) (by intro z; cases z)
        cases b with
        | false => exact ih (hno rfl)
        | true =>
          refine codeAny_handlers_suite ?_
          refine HandSPX.lands_againZ fl3 fun h4 fl4 up4 => ?_
          obtain ⟨oe4, vs4, he4, hz4, hd4, nL4, nF4⟩ := landed fl4
          have J4 := J.landed (s' := { heap := h4, gens := s'.gens, drawn := s'.drawn, toks := s'.toks, os := s'.os }) nb fl4.1 ((up.trans up3).trans up4) os ag
          have S4 := J4.suite he4 hd4 na nL4 nF4
          refine wpAny_mono ((hsu a oe4 cls d (X.pn ++ pins) hz4 ⟨vs4, hd4⟩).run [] _ σ' H' D S4 (hyes rfl a na)) (fun f s2 q => ?_) (fun _ _ z => z.elim)
          exact back q
      | @named x n i c ts b₀ suite np pos' hds l hi hln hc hsu r ih =>
        rintro ⟨b, hb1, hyes, hno⟩
        refine wpAny_handleBy_cons (codeAny_handlers_test (look hc (PySem.W.Looks.here (PySem.W.exm_one J3.kIn LT hb1) ?_))) (by intro z; cases z)
        cases b with
        | false => exact ih (hno rfl)
        | true =>
          refine codeAny_handlers_suite_as ?_
          refine HandSPX.lands_againZ fl3 fun h4 fl4 up4 => ?_
          obtain ⟨oe4, vs4, he4, hz4, hd4, nL4, nF4⟩ := landed fl4
          have J4 := J.landed (s' := { heap := h4, gens := s'.gens, drawn := s'.drawn, toks := s'.toks, os := s'.os }) nb fl4.1 ((up.trans up3).trans up4) os ag
          have S4 := J4.suite he4 hd4 na nL4 nF4
          refine store_ok (X := X.suite a ((a, oe4) :: (X.pn ++ pins))) S4 hN hi (.inl hln) (v := .ref a) rfl (fun s5 I5 => ?_) (.inr hln)
          refine wpAny_mono ((hsu a oe4 cls d (X.pn ++ pins) hz4 ⟨vs4, hd4⟩).run [] _ _ H' (endsGone D i) I5 (hyes rfl a na)) (fun f s2 q => ?_) (fun _ _ z => z.elim)
          have q := back q
          cases f with
          | next =>
            obtain ⟨σ2, H2, I2, q⟩ := q
            exact gone_ok I2 hN hi hln fun s6 I6 => ⟨_, _, I6, q⟩
          | brk =>
            obtain ⟨σ2, H2, I2, q⟩ := q
            exact gone_ok I2 hN hi hln fun s6 I6 => ⟨_, _, I6, q⟩
          | cont =>
            obtain ⟨σ2, H2, I2, q⟩ := q
            exact gone_ok I2 hN hi hln fun s6 I6 => ⟨_, _, I6, q⟩
          | ret u =>
            obtain ⟨v, σ2, H2, I2, r, q⟩ := q
            exact gone_ok I2 hN hi hln fun s6 I6 => ⟨v, _, _, I6, r, q⟩
    exact go hh w
  · cases f with
    | next => obtain ⟨σ2, H2, I2, q⟩ := q; exact wpAny_execs_nil ⟨σ2, H2, I2.ofTry ok, q⟩
    | brk => obtain ⟨σ2, H2, I2, q⟩ := q; exact ⟨σ2, H2, I2.ofTry ok, q⟩
    | cont => obtain ⟨σ2, H2, I2, q⟩ := q; exact ⟨σ2, H2, I2.ofTry ok, q⟩
    | ret u => obtain ⟨v, σ2, H2, I2, r, q⟩ := q; exact ⟨v, σ2, H2, I2.ofTry ok, r, q⟩
end LL
namespace LL
open PySem PySem.Spec PyProof.Rows L2
/-! ### own errors of one field, and defs that raise them -/
/-- an error class of one field, at C; its __init__ at f -/
structure ErC (K : PySem.W.Frag) (mg : Str → Option Value) (x fld : Str) (st : Stmt) where
  C : Addr
  f : Addr
  fd : FuncData
  qual : Str
  g : mg x = some (.ref C)
  oex : OexC K C
  xf : XfC K C
  no : PySem.W.findIn K (.ref C) fld = some none
  iC : PySem.W.findIn K (.ref C) "__init__" = some (some (.ref f))
  tI : PySem.W.typeIn K (.ref f) = some (.type "function")
  F : Fun K "__init__" qual st f fd
  b : Binds K fd ["self", fld] []
  te : PySem.W.exmOne K (.ref C) (.ref C) = some true
/-- what such an __init__ does -/
def spInitE (K : PySem.W.Frag) (fld : Str) : Sp := fun vs H Q _ => ∃ (a C : Addr) (v : V), vs = [.ref a, v] ∧ OexC K C ∧ PySem.W.findIn K (.ref C) fld = some none ∧ H a = some (exo a C none) ∧
  ∀ dx, H dx = none → dx ≠ a → Q .non (upd (upd H dx (exd dx [(fld, v)])) a (exo a C (some dx)))
/-- what is left to show where X(v) is made -/
theorem mkE {K : PySem.W.Frag} {mg : Str → Option Value} {x fld : Str} {st : Stmt} (R : ErC K mg x fld st) {v : V} {H1 : Hp} {Q : XK} (q : ∀ d, H1 d = none → Q (.ref R.C) (some d) (upd H1 d (.xd [(fld, v)]))) :
    [v].length ≤ 1000 ∧ ∀ a, H1 a = none → spInitE K fld (.ref a :: ([v] ++ [])) (upd H1 a (exo a R.C none))
      (fun y H2 => y = .non ∧ ∃ d fs, H2 a = some (exo a R.C (some d)) ∧ H2 d = some (exd d fs) ∧ H1 d = none ∧ Q (.ref R.C) (some d) (upd (del H2 a) d (.xd fs))) (fun _ _ _ => False) := by
  refine ⟨(by decide : 1 ≤ 1000), fun a ha => ?_⟩
  refine ⟨a, R.C, v, rfl, R.oex, R.no, upd_same, fun dx hdx ne => ?_⟩
  refine ⟨rfl, dx, [(fld, v)], upd_same, by rw [upd_ne ne, upd_same], ?_, ?_⟩
  · rw [upd_ne ne] at hdx
    exact hdx
  · have e : upd (del (upd (upd (upd H1 a (exo a R.C none)) dx (exd dx [(fld, v)])) a (exo a R.C (some dx))) a) dx (.xd [(fld, v)]) = upd H1 dx (.xd [(fld, v)]) := by
      funext b
      unfold L2.upd L2.del
      by_cases h : b = dx
      · simp [h]
      · by_cases h2 : b = a
        · subst h2
          simp [h, ha]
        · simp [h, h2]
    rw [e]
    refine q dx ?_
    rw [upd_ne ne] at hdx
    exact hdx
section
variable {X : Cx}
/-- X(e), an error -/
theorem pmkE {P : Program} {w : World} {K : PySem.W.Frag} {mg : Str → Option Value} {base : Heap} {x fld : Str} {st : Stmt} {e : Expr} {ta : TA} {p pos : Pos} {j k : Nat} (R : ErC K mg x fld st) (G : FnOk P w K mg base CX0 j R.f R.fd ["self", fld] (spInitE K fld))
    (e1 : X.prog = P) (e2 : X.w = w) (e3 : X.K = K) (e4 : X.mg = mg) (e5 : X.base = base)
    (hr : Room k X.A) (hjk : j + 1 ≤ k) (hg : Gl X x) (ha : PA X [e] ta) (hd : (x == ("__debug__" : Str)) = false := by decide)
    (hst : starEach [e] X.env = (false, eval e X.env) :: starEach [] X.env := by rfl) : PMk X (.Call (.Name x p) [e] [] pos) (tMkO R.C (spInitE K fld) [] ta) := by
  subst e1 e2 e3 e4 e5
  exact pmk_oex R.oex R.iC R.tI G (hr.mono hjk) R.b .nil pass0 hg R.g ha hd hst (by rfl)
/-- a call of a def that may raise -/
theorem pcallX {x : Str} {st : Stmt} {ps : List Str} {sp : Sp} {j k : Nat} {e : Expr} {es : List Expr} {t : TA} {p pos : Pos} {W : WX}
    (D : Dn X.K X.mg x st ps) (G : FnOk X.prog X.w X.K X.mg X.base (CX X.prog X.w) j D.f D.fd ps sp) (tk : Takes X W) (hr : Room k X.A) (hjk : j ≤ k)
    (hg : Gl X x) (ha : PA X (e :: es) t) (hd : (x == ("__debug__" : Str)) = false := by decide)
    (he : starEach (e :: es) X.env = (false, eval e X.env) :: starEach es X.env := by rfl)
    (hp : (backTo pos (starEach es X.env)).any (·.1) = false := by rfl) :
    PE X (.Call (.Name x p) (e :: es) [] pos) (tCallS sp (WE W) t) :=
  pe_callS G (hr.mono hjk) hg D.m D.F.kp D.b (fun σ => passAt tk σ) ha hd he hp
/-- e.fld in a suite -/
theorem pe_fldE {a : Addr} {oe : Obj} {cls : Value} {d : Option Addr} {pn : List (Addr × Obj)} {x fld : Str} {st : Stmt} {e : Expr} {te : TE} {pos : Pos} (R : ErC X.K X.mg x fld st) (hz : Zc cls d oe) (hf : ∃ vs, oe.data = .fields vs)
    (he : PE (X.suite a ((a, oe) :: pn)) e te) (hb : attributeBase e fld X.env (eval e X.env) = eval e X.env := by rfl) : PE (X.suite a ((a, oe) :: pn)) (.Attribute e fld pos) (tXf a cls d R.C fld te) :=
  pe_xf R.xf R.no hz hf he hb
end
/-- an exception class, by its name alone -/
structure ExN (mg : Str → Option Value) (x : Str) where
  C : Addr
  g : mg x = some (.ref C)
def exn_mk {mg : Str → Option Value} {x : Str} {C : Addr} (g : mg x = some (.ref C)) : ExN mg x := ⟨C, g⟩
end LL
namespace LL
open PySem PySem.Spec PyProof.Rows L2
def top (i : Nat) : Stmt := PySem.Challenge.pw_leastlore_k16_rows_refused.main.body.getD i (.Pass ⟨0, 0, 0, 0⟩)
abbrev scmaskbetween_st : Stmt := top 5
abbrev scmaskbetween_N : List Str := ["begin", "end"]
theorem scmaskbetween : FnScope scmaskbetween_N ["begin", "end"] (defScope scmaskbetween_st) := ⟨rfl, rfl, rfl, by decide +kernel, rfl, by decide +kernel, by decide +kernel⟩
abbrev scmaskof_st : Stmt := top 6
abbrev scmaskof_N : List Str := ["runs", "mask", "begin", "end"]
theorem scmaskof : FnScope scmaskof_N ["runs"] (defScope scmaskof_st) := ⟨rfl, rfl, rfl, by decide +kernel, rfl, by decide +kernel, by decide +kernel⟩
abbrev scfirstin_st : Stmt := top 7
abbrev scfirstin_N : List Str := ["mask"]
theorem scfirstin : FnScope scfirstin_N ["mask"] (defScope scfirstin_st) := ⟨rfl, rfl, rfl, by decide +kernel, rfl, by decide +kernel, by decide +kernel⟩
abbrev scrunsin_st : Stmt := top 8
abbrev scrunsin_N : List Str := ["mask", "runs", "end", "begin"]
theorem scrunsin : FnScope scrunsin_N ["mask"] (defScope scrunsin_st) := ⟨rfl, rfl, rfl, by decide +kernel, rfl, by decide +kernel, by decide +kernel⟩
abbrev sciswhole_st : Stmt := top 10
abbrev sciswhole_N : List Str := ["thing"]
theorem sciswhole : FnScope sciswhole_N ["thing"] (defScope sciswhole_st) := ⟨rfl, rfl, rfl, by decide +kernel, rfl, by decide +kernel, by decide +kernel⟩
abbrev sciswithin_st : Stmt := top 11
abbrev sciswithin_N : List Str := ["thing", "low", "high"]
theorem sciswithin : FnScope sciswithin_N ["thing", "low", "high"] (defScope sciswithin_st) := ⟨rfl, rfl, rfl, by decide +kernel, rfl, by decide +kernel, by decide +kernel⟩
abbrev scisspan_st : Stmt := top 14
abbrev scisspan_N : List Str := ["begin", "end", "most"]
theorem scisspan : FnScope scisspan_N ["begin", "end", "most"] (defScope scisspan_st) := ⟨rfl, rfl, rfl, by decide +kernel, rfl, by decide +kernel, by decide +kernel⟩
abbrev scisstretch_st : Stmt := top 15
abbrev scisstretch_N : List Str := ["thing"]
theorem scisstretch : FnScope scisstretch_N ["thing"] (defScope scisstretch_st) := ⟨rfl, rfl, rfl, by decide +kernel, rfl, by decide +kernel, by decide +kernel⟩
abbrev scisruns_st : Stmt := top 16
abbrev scisruns_N : List Str := ["thing"]
theorem scisruns : FnScope scisruns_N ["thing"] (defScope scisruns_st) := ⟨rfl, rfl, rfl, by decide +kernel, rfl, by decide +kernel, by decide +kernel⟩
abbrev scrunsof_st : Stmt := top 17
abbrev scrunsof_N : List Str := ["stretches", "stretch"]
theorem scrunsof : FnScope scrunsof_N ["stretches"] (defScope scrunsof_st) := ⟨rfl, rfl, rfl, by decide +kernel, rfl, by decide +kernel, by decide +kernel⟩
abbrev scrunsby_st : Stmt := top 18
abbrev scrunsby_N : List Str := ["numbers", "mask", "number"]
theorem scrunsby : FnScope scrunsby_N ["numbers"] (defScope scrunsby_st) := ⟨rfl, rfl, rfl, by decide +kernel, rfl, by decide +kernel, by decide +kernel⟩
abbrev scmaskoftidy_st : Stmt := top 19
abbrev scmaskoftidy_N : List Str := ["runs"]
theorem scmaskoftidy : FnScope scmaskoftidy_N ["runs"] (defScope scmaskoftidy_st) := ⟨rfl, rfl, rfl, by decide +kernel, rfl, by decide +kernel, by decide +kernel⟩
abbrev scjoinedruns_st : Stmt := top 20
abbrev scjoinedruns_N : List Str := ["one", "other", "mine", "theirs"]
theorem scjoinedruns : FnScope scjoinedruns_N ["one", "other"] (defScope scjoinedruns_st) := ⟨rfl, rfl, rfl, by decide +kernel, rfl, by decide +kernel, by decide +kernel⟩
abbrev sccommonruns_st : Stmt := top 21
abbrev sccommonruns_N : List Str := ["one", "other", "mine", "theirs"]
theorem sccommonruns : FnScope sccommonruns_N ["one", "other"] (defScope sccommonruns_st) := ⟨rfl, rfl, rfl, by decide +kernel, rfl, by decide +kernel, by decide +kernel⟩
abbrev sclessruns_st : Stmt := top 22
abbrev sclessruns_N : List Str := ["one", "other", "mine", "theirs"]
theorem sclessruns : FnScope sclessruns_N ["one", "other"] (defScope sclessruns_st) := ⟨rfl, rfl, rfl, by decide +kernel, rfl, by decide +kernel, by decide +kernel⟩
abbrev schowmany_st : Stmt := top 23
abbrev schowmany_N : List Str := ["runs"]
theorem schowmany : FnScope schowmany_N ["runs"] (defScope schowmany_st) := ⟨rfl, rfl, rfl, by decide +kernel, rfl, by decide +kernel, by decide +kernel⟩
abbrev scnumbersin_st : Stmt := top 24
abbrev scnumbersin_N : List Str := ["runs", "begin", "end", "number"]
theorem scnumbersin : FnScope scnumbersin_N ["runs"] (defScope scnumbersin_st) := ⟨rfl, rfl, rfl, by decide +kernel, rfl, by decide +kernel, by decide +kernel⟩
abbrev schasnumber_st : Stmt := top 25
abbrev schasnumber_N : List Str := ["runs", "thing", "numbers"]
theorem schasnumber : FnScope schasnumber_N ["runs", "thing"] (defScope schasnumber_st) := ⟨rfl, rfl, rfl, by decide +kernel, rfl, by decide +kernel, by decide +kernel⟩
abbrev scLcellat_st : Stmt := top 27
abbrev scLcellat_N : List Str := ["_law_script", "_law_k"]
theorem scLcellat : FnScope scLcellat_N ["_law_script", "_law_k"] (defScope scLcellat_st) := ⟨rfl, rfl, rfl, by decide +kernel, rfl, by decide +kernel, by decide +kernel⟩
abbrev scLbox_st : Stmt := top 28
abbrev scLbox_N : List Str := ["_law_cell"]
theorem scLbox : FnScope scLbox_N ["_law_cell"] (defScope scLbox_st) := ⟨rfl, rfl, rfl, by decide +kernel, rfl, by decide +kernel, by decide +kernel⟩
abbrev scLtake_st : Stmt := top 29
abbrev scLtake_N : List Str := ["_law_box_here", "_law_many", "_law_number"]
theorem scLtake : FnScope scLtake_N ["_law_box_here", "_law_many"] (defScope scLtake_st) := ⟨rfl, rfl, rfl, by decide +kernel, rfl, by decide +kernel, by decide +kernel⟩
abbrev scLwhole_st : Stmt := top 30
abbrev scLwhole_N : List Str := ["_law_thing_here"]
theorem scLwhole : FnScope scLwhole_N ["_law_thing_here"] (defScope scLwhole_st) := ⟨rfl, rfl, rfl, by decide +kernel, rfl, by decide +kernel, by decide +kernel⟩
abbrev scLgood_st : Stmt := top 31
abbrev scLgood_N : List Str := ["_law_thing_here"]
theorem scLgood : FnScope scLgood_N ["_law_thing_here"] (defScope scLgood_st) := ⟨rfl, rfl, rfl, by decide +kernel, rfl, by decide +kernel, by decide +kernel⟩
abbrev scLtidy_st : Stmt := top 32
abbrev scLtidy_N : List Str := ["_law_thing_here", "_law_one", "_law_k"]
theorem scLtidy : FnScope scLtidy_N ["_law_thing_here"] (defScope scLtidy_st) := ⟨rfl, rfl, rfl, by decide +kernel, rfl, by decide +kernel, by decide +kernel⟩
abbrev scLthing_st : Stmt := top 33
abbrev scLthing_N : List Str := ["_law_box_here", "_law_begin", "_law_some"]
theorem scLthing : FnScope scLthing_N ["_law_box_here"] (defScope scLthing_st) := ⟨rfl, rfl, rfl, by decide +kernel, rfl, by decide +kernel, by decide +kernel⟩
abbrev scLrow_st : Stmt := top 34
abbrev scLrow_N : List Str := ["_law_box_here", "_law_some", "_law_way", "_law_at"]
theorem scLrow : FnScope scLrow_N ["_law_box_here"] (defScope scLrow_st) := ⟨rfl, rfl, rfl, by decide +kernel, rfl, by decide +kernel, by decide +kernel⟩
abbrev scLdone_st : Stmt := top 35
abbrev scLdone_N : List Str := ["_law_way", "_law_one", "_law_other"]
theorem scLdone : FnScope scLdone_N ["_law_way", "_law_one", "_law_other"] (defScope scLdone_st) := ⟨rfl, rfl, rfl, by decide +kernel, rfl, by decide +kernel, by decide +kernel⟩
abbrev scLtold_st : Stmt := top 36
abbrev scLtold_N : List Str := ["_law_way", "_law_one", "_law_other", "_law_told_here", "e"]
theorem scLtold : FnScope scLtold_N ["_law_way", "_law_one", "_law_other"] (defScope scLtold_st) := ⟨rfl, rfl, rfl, by decide +kernel, rfl, by decide +kernel, by decide +kernel⟩
abbrev scLrowsright_st : Stmt := top 37
abbrev scLrowsright_N : List Str := ["_law_one", "_law_other", "_law_way", "_law_due"]
theorem scLrowsright : FnScope scLrowsright_N ["_law_one", "_law_other"] (defScope scLrowsright_st) := ⟨rfl, rfl, rfl, by decide +kernel, rfl, by decide +kernel, by decide +kernel⟩
abbrev scLfirstbad_st : Stmt := top 38
abbrev scLfirstbad_N : List Str := ["_law_things", "_law_numbers", "_law_thing_here"]
theorem scLfirstbad : FnScope scLfirstbad_N ["_law_things", "_law_numbers"] (defScope scLfirstbad_st) := ⟨rfl, rfl, rfl, by decide +kernel, rfl, by decide +kernel, by decide +kernel⟩
abbrev sclaw_st : Stmt := top 39
abbrev sclaw_N : List Str := ["_law_script", "_law_k", "_law_box_here", "_law_one", "_law_other", "_law_kept", "_law_thing_here", "_law_found", "_law_bad", "_law_due", "_law_some", "_law_things"]
theorem sclaw : FnScope sclaw_N ["_law_script"] (defScope sclaw_st) := ⟨rfl, rfl, rfl, by decide +kernel, rfl, by decide +kernel, by decide +kernel⟩
abbrev scNoNumberinit_st : Stmt := inClass (top 2) 0
abbrev scNoNumberinit_N : List Str := ["self", "found"]
theorem scNoNumberinit : FnScope scNoNumberinit_N ["self", "found"] (defScope scNoNumberinit_st) := ⟨rfl, rfl, rfl, by decide +kernel, rfl, by decide +kernel, by decide +kernel⟩
abbrev scNoStretchinit_st : Stmt := inClass (top 3) 0
abbrev scNoStretchinit_N : List Str := ["self", "found"]
theorem scNoStretchinit : FnScope scNoStretchinit_N ["self", "found"] (defScope scNoStretchinit_st) := ⟨rfl, rfl, rfl, by decide +kernel, rfl, by decide +kernel, by decide +kernel⟩
/-- where the defs stand -/
structure Defs (K : PySem.W.Frag) (mg : Str → Option Value) where
  mask_between : Dn K mg "mask_between" scmaskbetween_st ["begin", "end"]
  mask_of : Dn K mg "mask_of" scmaskof_st ["runs"]
  first_in : Dn K mg "first_in" scfirstin_st ["mask"]
  runs_in : Dn K mg "runs_in" scrunsin_st ["mask"]
  is_whole : Dn K mg "is_whole" sciswhole_st ["thing"]
  is_within : Dn K mg "is_within" sciswithin_st ["thing", "low", "high"]
  is_span : Dn K mg "is_span" scisspan_st ["begin", "end", "most"]
  is_stretch : Dn K mg "is_stretch" scisstretch_st ["thing"]
  is_runs : Dn K mg "is_runs" scisruns_st ["thing"]
  runs_of : Dn K mg "runs_of" scrunsof_st ["stretches"]
  runs_by : Dn K mg "runs_by" scrunsby_st ["numbers"]
  mask_of_tidy : Dn K mg "mask_of_tidy" scmaskoftidy_st ["runs"]
  joined_runs : Dn K mg "joined_runs" scjoinedruns_st ["one", "other"]
  common_runs : Dn K mg "common_runs" sccommonruns_st ["one", "other"]
  less_runs : Dn K mg "less_runs" sclessruns_st ["one", "other"]
  how_many : Dn K mg "how_many" schowmany_st ["runs"]
  numbers_in : Dn K mg "numbers_in" scnumbersin_st ["runs"]
  has_number : Dn K mg "has_number" schasnumber_st ["runs", "thing"]
  _law_cell_at : Dn K mg "_law_cell_at" scLcellat_st ["_law_script", "_law_k"]
  _law_box : Dn K mg "_law_box" scLbox_st ["_law_cell"]
  _law_take : Dn K mg "_law_take" scLtake_st ["_law_box_here", "_law_many"]
  _law_whole : Dn K mg "_law_whole" scLwhole_st ["_law_thing_here"]
  _law_good : Dn K mg "_law_good" scLgood_st ["_law_thing_here"]
  _law_tidy : Dn K mg "_law_tidy" scLtidy_st ["_law_thing_here"]
  _law_thing : Dn K mg "_law_thing" scLthing_st ["_law_box_here"]
  _law_row : Dn K mg "_law_row" scLrow_st ["_law_box_here"]
  _law_done : Dn K mg "_law_done" scLdone_st ["_law_way", "_law_one", "_law_other"]
  _law_told : Dn K mg "_law_told" scLtold_st ["_law_way", "_law_one", "_law_other"]
  _law_rows_right : Dn K mg "_law_rows_right" scLrowsright_st ["_law_one", "_law_other"]
  _law_first_bad : Dn K mg "_law_first_bad" scLfirstbad_st ["_law_things", "_law_numbers"]
  law : Dn K mg "law" sclaw_st ["_law_script"]
  erNoNumber : ErC K mg "NoNumber" "found" scNoNumberinit_st
  erNoStretch : ErC K mg "NoStretch" "found" scNoStretchinit_st
  lore : ExN mg "LoreError"
  ns_nn : PySem.W.exmOne K (.ref erNoNumber.C) (.ref erNoStretch.C) = some false
/-- what else the names of the top hold -/
structure Tx (K : PySem.W.Frag) (mg : Str → Option Value) where
  b_len : mg "len" = none
  b_range : mg "range" = none
  b_isinstance : mg "isinstance" = none
  b_int : mg "int" = none
  b_tuple : mg "tuple" = none
  b_max : mg "max" = none
  b_repr : mg "repr" = none
  b_bool : mg "bool" = none
  b_list : mg "list" = none
  b_all : mg "all" = none
  b_min : mg "min" = none
  t_MOST_END : Tok
  g_MOST_END : mg "MOST_END" = some (.int 400 t_MOST_END)
def tx_mk {K : PySem.W.Frag} {mg : Str → Option Value} {t_MOST_END : Tok} (b_len : mg "len" = none) (b_range : mg "range" = none) (b_isinstance : mg "isinstance" = none) (b_int : mg "int" = none) (b_tuple : mg "tuple" = none) (b_max : mg "max" = none) (b_repr : mg "repr" = none) (b_bool : mg "bool" = none) (b_list : mg "list" = none) (b_all : mg "all" = none) (b_min : mg "min" = none)
    (g_MOST_END : mg "MOST_END" = some (.int 400 t_MOST_END)) : Tx K mg := ⟨b_len, b_range, b_isinstance, b_int, b_tuple, b_max, b_repr, b_bool, b_list, b_all, b_min, t_MOST_END, g_MOST_END⟩
abbrev Defs.cLoreError {K : PySem.W.Frag} {mg : Str → Option Value} (D : Defs K mg) : Addr := D.lore.C
theorem Defs.g_LoreError {K : PySem.W.Frag} {mg : Str → Option Value} (D : Defs K mg) : mg "LoreError" = some (.ref D.cLoreError) := D.lore.g
section
variable {P : Program} {w : World} {K : PySem.W.Frag} {mg : Str → Option Value} {base : Heap}
def spBetween : Sp := fun vs H Q _ => ∃ z : Pr, vs = [.int (z.1 : Int), .int (z.2 : Int)] ∧ z.1 ≤ z.2 ∧ z.2 ≤ 1000000 ∧ Q (.int (span z : Nat)) H
theorem ok_mask_between (D : Defs K mg) (T : Tx K mg) : FnOk P w K mg base CX0 1 D.mask_between.f D.mask_between.fd ["begin", "end"] spBetween := by
  refine D.mask_between.F.ok scmaskbetween (fun vs H Q E h => ?_) (fun cdv A outer s H vs Q E hr h => ?_)
  · obtain ⟨z, rfl, _⟩ := h
    rfl
  · obtain ⟨⟨b, e⟩, rfl, le, top, k⟩ := h
    have le : b ≤ e := le
    have top : e ≤ 1000000 := top
    refine ⟨_, (pss_one (ps_ret (pe_op op_sub (pe_op op_shl pe_int (pv 1)) (pe_op op_shl pe_int (pv 0))))), ?_⟩
    refine ⟨_, rfl, _, _, rfl, rfl, ⟨by omega, by omega, by decide⟩, _, rfl, _, _, rfl, rfl, ⟨by omega, by omega, by decide⟩, _, _, rfl, rfl, ?_⟩
    have p : 2 ^ b ≤ 2 ^ e := Nat.pow_le_pow_right (by decide) le
    have q : (1 : Int) * 2 ^ ((e : Int)).toNat - 1 * 2 ^ ((b : Int)).toNat = ((span (b, e) : Nat) : Int) := by
      show _ = ((2 ^ e - 2 ^ b : Nat) : Int)
      rw [Int.toNat_natCast, Int.toNat_natCast, Int.one_mul, Int.one_mul, ← PySem.W.kbt_cast, ← PySem.W.kbt_cast]
      omega
    show Q (.int ((1 : Int) * 2 ^ ((e : Int)).toNat - 1 * 2 ^ ((b : Int)).toNat)) H
    rw [q]
    exact k
def RowSq (H : Hp) (a : Addr) (r : List Pr) : Prop := ∃ qs : List Addr, (H a = some (.lst (qs.map V.ref)) ∨ H a = some (.tup (qs.map V.ref))) ∧ PrsAt H qs r
theorem RowAt.sq {H : Hp} {a : Addr} {r : List Pr} (h : RowAt H a r) : RowSq H a r := let ⟨qs, e, p⟩ := h; ⟨qs, .inl e, p⟩
theorem RowSq.keep {a : Addr} {H H' : Hp} {r : List Pr} (k : Keep H H') (h : RowSq H a r) : RowSq H' a r := by
  obtain ⟨qs, e, p⟩ := h
  refine ⟨qs, ?_, p.put fun q xs e => k _ _ (fun q z => by cases z) e⟩
  rcases e with e | e
  · exact .inl (k _ _ (fun q z => by cases z) e)
  · exact .inr (k _ _ (fun q z => by cases z) e)
def spMask (K : PySem.W.Frag) : Sp := fun vs H Q _ => ∃ (a : Addr) (r : List Pr), vs = [.ref a] ∧ RowSq H a r ∧ Valid r ∧ Q (.int (maskN r : Nat)) H
theorem ok_mask_of (D : Defs K mg) (T : Tx K mg) : FnOk P w K mg base CX0 2 D.mask_of.f D.mask_of.fd ["runs"] (spMask K) := by
  have Gmask_between := ok_mask_between (P := P) (w := w) (base := base) D T
  refine D.mask_of.F.ok scmaskof (fun vs H Q E h => ?_) (fun cdv A outer s H vs Q E hr h => ?_)
  · obtain ⟨a, r, rfl, _⟩ := h
    rfl
  · obtain ⟨a, r, rfl, ⟨qs, hq, pr⟩, va, k⟩ := h
    refine ⟨_, (pss_cons (ps_set (i := 1) scmaskof.nd rfl (Or.inl rfl) pe_int)
        (pss_cons (ps_for PassesOwn.never rfl (pi_seq (pv 0)) (pg_tup rfl (pgs_cons (pg_name (i := 2) scmaskof.nd rfl (Or.inl rfl)) (pgs_cons (pg_name (i := 3) scmaskof.nd rfl (Or.inl rfl)) pgs_nil))) (pss_one (ps_aug (i := 1) scmaskof.nd rfl (Or.inl rfl) (pcall D.mask_between Gmask_between hr (by decide) (by rfl) (pa_cons (pv 2) (pa_cons (pv 3) pa_nil))) iop_or)))
        (pss_one (ps_ret (pv 1))))), ?_⟩
    have step : ∀ (i : Nat) (x : V), (qs.map V.ref)[i]? = some x → ∃ q z, x = .ref q ∧ H q = some (.tup [.int (z.1 : Int), .int (z.2 : Int)]) ∧ z.1 < z.2 ∧ z.2 ≤ 400 ∧ maskN (r.take (i + 1)) = maskN (r.take i) ||| span z := by
      intro i x hx
      rw [List.getElem?_map] at hx
      cases hq' : qs[i]? with
      | none => rw [hq'] at hx; cases hx
      | some q =>
        rw [hq'] at hx
        obtain rfl : V.ref q = x := Option.some.inj hx
        obtain ⟨z, hz, hqt⟩ := pr.get hq'
        obtain ⟨z1, z2⟩ := va z (List.mem_of_getElem? hz)
        refine ⟨q, z, rfl, hqt, z1, z2, ?_⟩
        unfold maskN
        rw [List.take_add_one, hz, List.foldl_append]
        rfl
    refine ⟨_, rfl, a, rfl, ?_⟩
    rcases hq with ha | ha
    · refine .inl ⟨⟨_, SqL.of ha⟩, for_list (K := K) (a := a) (xs := qs.map V.ref) (fun i σ H' => H' = H ∧ ∃ v1 v2, σ = [some (.ref a), some (.int (maskN (r.take i) : Nat)), v1, v2])
        ⟨rfl, _, _, rfl⟩ (fun i σ H' _ q => by rw [q.1]; exact SqL.of ha) ?_ ?_⟩
      · rintro i x σ H' hx ⟨rfl, v1, v2, rfl⟩
        obtain ⟨q, z, rfl, hqt, z1, z2, e⟩ := step i x hx
        refine ⟨q, _, rfl, SqT.of hqt, rfl, _, _, rfl, _, _, rfl, rfl, ?_⟩
        refine ⟨_, rfl, _, rfl, _, rfl, z, rfl, by omega, by omega, ?_⟩
        refine ⟨_, _, rfl, rfl, rfl, some (.int (z.1 : Int)), some (.int (z.2 : Int)), ?_⟩
        show [some (V.ref a), some (V.int (Builtin.bitOr ((maskN (r.take i) : Nat) : Int) ((span z : Nat) : Int))), some (V.int (z.1 : Int)), some (V.int (z.2 : Int))] = _
        rw [or_masks, e]
      · rintro σ H' ⟨rfl, v1, v2, rfl⟩
        refine ⟨_, rfl, ?_⟩
        rw [List.length_map, pr.len, List.take_length]
        exact k
    · refine .inr ⟨⟨_, SqT.of ha⟩, for_tup (K := K) (a := a) (xs := qs.map V.ref) (fun i σ H' => H' = H ∧ ∃ v1 v2, σ = [some (.ref a), some (.int (maskN (r.take i) : Nat)), v1, v2])
        ⟨rfl, _, _, rfl⟩ (fun i σ H' _ q => by rw [q.1]; exact SqT.of ha) ?_ ?_⟩
      · rintro i x σ H' hx ⟨rfl, v1, v2, rfl⟩
        obtain ⟨q, z, rfl, hqt, z1, z2, e⟩ := step i x hx
        refine ⟨q, _, rfl, SqT.of hqt, rfl, _, _, rfl, _, _, rfl, rfl, ?_⟩
        refine ⟨_, rfl, _, rfl, _, rfl, z, rfl, by omega, by omega, ?_⟩
        refine ⟨_, _, rfl, rfl, rfl, some (.int (z.1 : Int)), some (.int (z.2 : Int)), ?_⟩
        show [some (V.ref a), some (V.int (Builtin.bitOr ((maskN (r.take i) : Nat) : Int) ((span z : Nat) : Int))), some (V.int (z.1 : Int)), some (V.int (z.2 : Int))] = _
        rw [or_masks, e]
      · rintro σ H' ⟨rfl, v1, v2, rfl⟩
        refine ⟨_, rfl, ?_⟩
        rw [List.length_map, pr.len, List.take_length]
        exact k
def spFirst : Sp := fun vs H Q _ => ∃ (i : Int) (n : Nat), vs = [.int i] ∧ Low i n ∧ Q (.int (n : Int)) H
theorem ok_first_in (D : Defs K mg) (T : Tx K mg) : FnOk P w K mg base CX0 1 D.first_in.f D.first_in.fd ["mask"] spFirst := by
  refine D.first_in.F.ok scfirstin (fun vs H Q E h => ?_) (fun cdv A outer s H vs Q E hr h => ?_)
  · obtain ⟨i, n, rfl, _⟩ := h
    rfl
  · obtain ⟨i, n, rfl, lo, k⟩ := h
    refine ⟨_, (pss_one (ps_ret (pe_op op_sub (pe_bits (pe_op op_and (pv 0) (pe_un un_neg (pv 0)))) pe_int))), ?_⟩
    refine ⟨_, rfl, _, rfl, _, rfl, _, _, rfl, rfl, ?_⟩
    refine ⟨_, rfl, _, _, rfl, rfl, ?_⟩
    rw [lo.bits, bits_pow]
    have e : ((n + 1 : Nat) : Int) - 1 = (n : Int) := by omega
    show Q (.int (((n + 1 : Nat) : Int) - 1)) H
    rw [e]
    exact k
/-- the tidy row of a mask's numbers, new -/
def spRunsIn (tb : Addr) : Sp := fun vs H Q _ => ∃ m : Nat, vs = [.int (m : Int)] ∧ m < 2 ^ 400 ∧ GxR.TabG H tb ∧
  ∀ (r : List Pr) (p : Addr) (H' : Hp), Tidy r → (∀ n, has r n = m.testBit n) → Nw tb H H' → H p = none → RowAt H' p r → Q (.ref p) H'
theorem ok_runs_in (D : Defs K mg) (T : Tx K mg) {tb : Addr} : FnOk P w K mg base CX0 2 D.runs_in.f D.runs_in.fd ["mask"] (spRunsIn tb) := by
  have Gfirst_in := ok_first_in (P := P) (w := w) (base := base) D T
  refine D.runs_in.F.ok scrunsin (fun vs H Q E h => ?_) (fun cdv A outer s H vs Q E hr h => ?_)
  · obtain ⟨m, rfl, _⟩ := h
    rfl
  · obtain ⟨m, rfl, top, tab, k⟩ := h
    have bits : ∀ n, m.testBit n = true → n < 400 := fun n q => by
      rcases Nat.lt_or_ge n 400 with l | l
      · exact l
      · rw [Nat.testBit_lt_two_pow (Nat.lt_of_lt_of_le top (Nat.pow_le_pow_right (by decide) l))] at q
        cases q
    refine ⟨_, (pss_cons (ps_set (i := 1) scrunsin.nd rfl (Or.inl rfl) (pe_lst pa_nil))
        (pss_cons (ps_set (i := 2) scrunsin.nd rfl (Or.inl rfl) pe_int)
        (pss_cons (ps_while PassesOwn.never (pt_tru (pe_op op_shr (pv 0) (pv 2))) (pss_cons (ps_set (i := 3) scrunsin.nd rfl (Or.inl rfl) (pe_op op_add (pv 2) (pcall D.first_in Gfirst_in hr (by decide) (by rfl) (pa_cons (pe_op op_shr (pv 0) (pv 2)) pa_nil))))
        (pss_cons (ps_set (i := 2) scrunsin.nd rfl (Or.inl rfl) (pe_op op_add (pv 3) (pcall D.first_in Gfirst_in hr (by decide) (by rfl) (pa_cons (pe_un un_inv (pe_op op_shr (pv 0) (pv 3))) pa_nil))))
        (pss_one (ps_expr (pe_bm PySem.F.plainAttrs_list PySem.F.slot_list_append PySem.F.type_list_append mt_append (pv 1) (pa_cons (pe_tup (pa_cons (pv 3) (pa_cons (pv 2) pa_nil))) pa_nil)))))))
        (pss_one (ps_ret (pv 1)))))), ?_⟩
    refine ⟨(by show 0 ≤ sizeLine; decide), fun p hp => ?_⟩
    refine while_by (fun σ H' => ∃ (e : Nat) (r : List Pr) (v : Option V), σ = [some (.int (m : Int)), some (.ref p), some (.int (e : Int)), v] ∧ e ≤ 400 ∧ Tidy r ∧ (∀ z ∈ r, z.2 ≤ e) ∧ (∀ n, n < e → has r n = m.testBit n) ∧
        (r ≠ [] → m.testBit e = false) ∧ Nw tb H H' ∧ RowAt H' p r) (fun σ _ => match σ with | [_, _, some (.int e), _] => 400 - e.toNat | _ => 0)
      ⟨0, [], none, rfl, by omega, trivial, (fun z hz => nomatch hz), (fun n hn => absurd hn (Nat.not_lt_zero n)), (fun z => absurd rfl z), (Nw.refl tab).new hp, ⟨[], upd_same, .nil⟩⟩ ?_ (fun σ H Q Q' mono => ?_)
    · rintro σ H' ⟨e, r, v, rfl, e4, ti, lo, ha, gap, nw, row⟩
      refine ⟨_, rfl, _, rfl, _, _, rfl, rfl, Int.natCast_nonneg e, ?_⟩
      have sh : (m : Int) / 2 ^ ((e : Int)).toNat = ((m / 2 ^ e : Nat) : Int) := by
        rw [Int.toNat_natCast, ← PySem.W.kbt_cast]
        rfl
      show ∃ k, TruV _ (.int ((m : Int) / 2 ^ ((e : Int)).toNat)) _ k ∧ _
      rw [sh]
      by_cases z : m / 2 ^ e = 0
      · refine ⟨false, ?_, iteF ?_⟩
        · rw [z]; rfl
        · refine ⟨_, rfl, k r p H' ti (fun n => ?_) nw hp row⟩
          by_cases l : n < e
          · exact ha n l
          · rw [no_more z n (by omega)]
            cases q : has r n with
            | false => rfl
            | true =>
              obtain ⟨y, hy, q⟩ := List.any_eq_true.mp q
              have q := of_decide_eq_true (Bool.and_eq_true_iff.mp q).2
              have := lo y hy
              omega
      · obtain ⟨j, low1, set1, out1⟩ := low_of z
        obtain ⟨i, i0, low2, out2, set2⟩ := low_not set1
        refine ⟨true, ?_, iteT ?_⟩
        · show true = (((m / 2 ^ e : Nat) : Int) != 0)
          have : ((m / 2 ^ e : Nat) : Int) ≠ 0 := fun y => z (Int.ofNat.inj y)
          exact (bne_iff_ne.mpr this).symm
        have b4 := bits _ set1
        have e5 := bits (e + j + (i - 1)) (set2 _ (by omega) (by omega))
        refine ⟨_, rfl, _, rfl, _, rfl, _, _, rfl, rfl, Int.natCast_nonneg e, ?_⟩
        have q1 : (e : Int) + (j : Int) = ((e + j : Nat) : Int) := by omega
        have sh2 : (m : Int) / 2 ^ ((e : Int) + (j : Int)).toNat = ((m / 2 ^ (e + j) : Nat) : Int) := by
          rw [q1, Int.toNat_natCast, ← PySem.W.kbt_cast]
          rfl
        refine ⟨_, j, congrArg (fun y : Int => [V.int y]) sh, low1, _, _, rfl, rfl, ?_⟩
        refine ⟨_, rfl, _, rfl, _, rfl, _, _, rfl, rfl, (by omega : (0 : Int) ≤ (e : Int) + (j : Int)), _, rfl, ?_⟩
        refine ⟨_, i, congrArg (fun y : Int => [V.int (Builtin.bitNot y)]) sh2, low2, _, _, rfl, rfl, ?_⟩
        have q2 : (e : Int) + (j : Int) + (i : Int) = ((e + j + i : Nat) : Int) := by omega
        obtain ⟨qs, hq, pr⟩ := id row
        refine ⟨_, rfl, .inl ⟨rfl, _, SqL.of hq⟩, _, rfl, _, rfl, (by show 2 ≤ sizeLine; decide), fun t ht => ?_⟩
        have nt := ne_of_none hq ht
        have hr4 : r.length ≤ 201 := ti.len
        refine ⟨p, _, _, rfl, rfl, (by rw [upd_ne nt]; exact hq), ?_, ?_⟩
        · rw [List.length_map, pr.len]
          have := PySem.sizeLine_eq
          omega
        refine ⟨⟨e + j + i, r ++ [(e + j, e + j + i)], _, rfl, by omega, ti.app (fun y hy => ?_) (by omega) (by omega), fun y hy => ?_, fun n hn => ?_, fun _ => out2, ?_, qs ++ [t], ?_, ?_⟩, ?_⟩
        · rcases Nat.lt_or_ge y.2 (e + j) with l | l
          · exact l
          · have := lo y hy
            have g := gap (fun q => by rw [q] at hy; cases hy)
            have : e + j = e := by omega
            rw [this, g] at set1
            cases set1
        · rcases List.mem_append.mp hy with hy | hy
          · have := lo y hy
            omega
          · rw [List.mem_singleton.mp hy]
            exact Nat.le_refl _
        · rw [has_app, has_one]
          by_cases l : n < e
          · rw [ha n l, decide_eq_false (show ¬ e + j ≤ n by omega), Bool.false_and, Bool.or_false]
          · have no : has r n = false := by
              cases q : has r n with
              | false => rfl
              | true =>
                obtain ⟨y, hy, q⟩ := List.any_eq_true.mp q
                have q := of_decide_eq_true (Bool.and_eq_true_iff.mp q).2
                have := lo y hy
                omega
            rw [no, Bool.false_or]
            by_cases l2 : n < e + j
            · rw [out1 n (by omega) l2, decide_eq_false (show ¬ e + j ≤ n by omega), Bool.false_and]
            · rw [set2 n (by omega) hn, decide_eq_true (show e + j ≤ n by omega), decide_eq_true hn]
              rfl
        · refine (nw.new ht).put hp (o := .lst (qs.map V.ref)) (by rw [upd_ne nt]; exact hq) (fun q z => by cases z)
        · rw [List.map_append]
          exact upd_same
        · refine (pr.put fun q xs e => ?_).app (.cons ?_ .nil)
          · rw [upd_ne (ne_of e hq (by intro z; cases z)), upd_ne (ne_of_none e ht)]
            exact e
          · rw [upd_ne nt.symm]
            exact upd_same
        · show 400 - (((e + j + i : Nat) : Int)).toNat < 400 - ((e : Int)).toNat
          omega
    · intro h
      obtain ⟨v1, hx, v2, hy, a, b, e1, e2, c, k, tr, q⟩ := h
      exact ⟨v1, hx, v2, hy, a, b, e1, e2, c, k, tr, mono _ _ q⟩
theorem ok_NoStretch___init__ (D : Defs K mg) (T : Tx K mg) : FnOk P w K mg base CX0 1 D.erNoStretch.f D.erNoStretch.fd ["self", "found"] (spInitE K "found") := by
  refine D.erNoStretch.F.ok scNoStretchinit (fun vs H Q E h => ?_) (fun cdv A outer s H vs Q E hr h => ?_)
  · obtain ⟨a, C, v, rfl, _⟩ := h
    rfl
  · obtain ⟨a, C, v, rfl, ox, no, ha, k⟩ := h
    refine ⟨_, (pss_one (ps_ost (pv 0) (pv 1))), ?_⟩
    exact ⟨_, rfl, _, rfl, a, C, rfl, ox, no, .inl ⟨ha, fun dx hd ne => k dx hd ne⟩⟩
theorem ok_NoNumber___init__ (D : Defs K mg) (T : Tx K mg) : FnOk P w K mg base CX0 1 D.erNoNumber.f D.erNoNumber.fd ["self", "found"] (spInitE K "found") := by
  refine D.erNoNumber.F.ok scNoNumberinit (fun vs H Q E h => ?_) (fun cdv A outer s H vs Q E hr h => ?_)
  · obtain ⟨a, C, v, rfl, _⟩ := h
    rfl
  · obtain ⟨a, C, v, rfl, ox, no, ha, k⟩ := h
    refine ⟨_, (pss_one (ps_ost (pv 0) (pv 1))), ?_⟩
    exact ⟨_, rfl, _, rfl, a, C, rfl, ox, no, .inl ⟨ha, fun dx hd ne => k dx hd ne⟩⟩
end
end LL
namespace LL
open PySem PySem.Spec PyProof.Rows L2
section
variable {P : Program} {w : World} {K : PySem.W.Frag} {mg : Str → Option Value} {base : Heap} {c tb : Addr}
def spWhole (K : PySem.W.Frag) : Sp := fun vs H Q _ => ∃ x, vs = [x] ∧ Thing K H x ∧ Q (.bl (isInt x)) H
theorem ok_is_whole (D : Defs K mg) (T : Tx K mg) : FnOk P w K mg base CX0 1 D.is_whole.f D.is_whole.fd ["thing"] (spWhole K) := by
  refine D.is_whole.F.ok sciswhole (fun vs H Q E h => ?_) (fun cdv A outer s H vs Q E hr h => ?_)
  · obtain ⟨x, rfl, _⟩ := h
    rfl
  · obtain ⟨x, rfl, th, k⟩ := h
    refine ⟨_, (pss_one (ps_ret (pe_and (pe_callB call_is_int (by rfl) T.b_isinstance (by decide +kernel) (pa_cons (pv 0) (pa_cons (pe_bltn (v := .ty "int") (u := .type "int") (by rfl) T.b_int (by decide +kernel) rfl) pa_nil))) (pe_one (pe_not (pe_callB call_is_bool (by rfl) T.b_isinstance (by decide +kernel) (pa_cons (pv 0) (pa_cons (pe_bltn (v := .ty "bool") (u := .type "bool") (by rfl) T.b_bool (by decide +kernel) rfl) pa_nil)))))))), ?_⟩
    refine ⟨_, rfl, _, rfl, th, _, rfl, ?_⟩
    cases th with
    | int i => exact iteT ⟨_, rfl, _, rfl, .int i, _, rfl, k⟩
    | bl b => exact iteT ⟨_, rfl, _, rfl, .bl b, _, rfl, k⟩
    | _ => exact iteF k
def spWithin (K : PySem.W.Frag) : Sp := fun vs H Q _ => ∃ x lo hi, vs = [x, .int lo, .int hi] ∧ Thing K H x ∧ Q (.bl (within x lo hi)) H
theorem ok_is_within (D : Defs K mg) (T : Tx K mg) : FnOk P w K mg base CX0 2 D.is_within.f D.is_within.fd ["thing", "low", "high"] (spWithin K) := by
  have Gis_whole := ok_is_whole (P := P) (w := w) (base := base) D T
  refine D.is_within.F.ok sciswithin (fun vs H Q E h => ?_) (fun cdv A outer s H vs Q E hr h => ?_)
  · obtain ⟨x, lo, hi, rfl, _⟩ := h
    rfl
  · obtain ⟨x, lo, hi, rfl, th, k⟩ := h
    refine ⟨_, (pss_one (ps_ret (pe_and (pcall D.is_whole Gis_whole hr (by decide) (by rfl) (pa_cons (pv 0) pa_nil)) (pe_one (pe_chain op_le op_le (pv 1) (pv 0) (pv 2)))))), ?_⟩
    refine ⟨x, rfl, x, rfl, th, ⟨_, rfl, ?_⟩⟩
    cases th with
    | int i =>
      refine iteT ⟨_, rfl, _, rfl, _, _, rfl, rfl, _, rfl, ?_⟩
      by_cases h1 : lo ≤ i
      · rw [decide_eq_true h1]
        refine iteT ⟨_, rfl, _, _, rfl, rfl, ?_⟩
        have e : within (.int i) lo hi = decide (i ≤ hi) := by simp [within, h1]
        rw [e] at k
        exact k
      · rw [decide_eq_false h1]
        have e : within (.int i) lo hi = false := by simp [within, h1]
        rw [e] at k
        exact iteF k
    | _ => exact iteF k
def spSpan (K : PySem.W.Frag) : Sp := fun vs H Q _ => ∃ (y z : V) (most : Nat), vs = [y, z, .int (most : Int)] ∧ Thing K H y ∧ Thing K H z ∧ Q (.bl (spanV y z most)) H
theorem ok_is_span (D : Defs K mg) (T : Tx K mg) : FnOk P w K mg base CX0 3 D.is_span.f D.is_span.fd ["begin", "end", "most"] (spSpan K) := by
  have Gis_within := ok_is_within (P := P) (w := w) (base := base) D T
  refine D.is_span.F.ok scisspan (fun vs H Q E h => ?_) (fun cdv A outer s H vs Q E hr h => ?_)
  · obtain ⟨y, z, m, rfl, _⟩ := h
    rfl
  · obtain ⟨y, z, m, rfl, ty, tz, k⟩ := h
    refine ⟨_, (pss_one (ps_ret (pe_and (pcall D.is_within Gis_within hr (by decide) (by rfl) (pa_cons (pv 0) (pa_cons pe_int (pa_cons (pv 2) pa_nil)))) (pe_one (pcall D.is_within Gis_within hr (by decide) (by rfl) (pa_cons (pv 1) (pa_cons (pe_op op_add (pv 0) pe_int) (pa_cons (pv 2) pa_nil)))))))), ?_⟩
    refine ⟨_, rfl, _, rfl, _, _, _, rfl, ty, _, rfl, ?_⟩
    cases ty with
    | int b =>
      have e : spanV (.int b) z m = (within (.int b) 0 m && within z (b + 1) m) := rfl
      rw [e] at k
      cases q : within (.int b) 0 m with
      | false =>
        rw [q] at k
        exact iteF k
      | true =>
        rw [q, Bool.true_and] at k
        exact iteT ⟨_, rfl, _, rfl, _, _, rfl, rfl, _, rfl, _, _, _, rfl, tz, k⟩
    | _ => exact iteF k
def spStretch (K : PySem.W.Frag) : Sp := fun vs H Q _ => ∃ (x : V) (b : Bool), vs = [x] ∧ StB K H x b ∧ Q (.bl b) H
theorem ok_is_stretch (D : Defs K mg) (T : Tx K mg) : FnOk P w K mg base CX0 4 D.is_stretch.f D.is_stretch.fd ["thing"] (spStretch K) := by
  have Gis_span := ok_is_span (P := P) (w := w) (base := base) D T
  refine D.is_stretch.F.ok scisstretch (fun vs H Q E h => ?_) (fun cdv A outer s H vs Q E hr h => ?_)
  · obtain ⟨x, b, rfl, _⟩ := h
    rfl
  · obtain ⟨x, b, rfl, st, k⟩ := h
    refine ⟨_, (pss_one (ps_ret (pe_and (pe_callB call_is_tuple (by rfl) T.b_isinstance (by decide +kernel) (pa_cons (pv 0) (pa_cons (pe_bltn (v := .ty "tuple") (u := .type "tuple") (by rfl) T.b_tuple (by decide +kernel) rfl) pa_nil))) (pe_and (pe_cmpR op_eq (pe_callB call_len_seq (by rfl) T.b_len (by decide +kernel) (pa_cons (pv 0) pa_nil)) pe_int (nomark _)) (pe_one (pcall D.is_span Gis_span hr (by decide) (by rfl) (pa_cons (pe_ix ix_tup (pv 0) pe_int (fun _ _ => rfl)) (pa_cons (pe_ix ix_tup (pv 0) pe_int (fun _ _ => rfl)) (pa_cons (pe_glob (v := .int 400) (by rfl) T.g_MOST_END ⟨_, rfl⟩) pa_nil))))))))), ?_⟩
    cases st with
    | other h => exact ⟨_, rfl, _, _, rfl, h, _, rfl, iteF k⟩
    | wrong h n =>
      refine ⟨_, rfl, _, _, rfl, .tup (tyX_t h), _, rfl, iteT ⟨_, rfl, _, _, rfl, .inr (SqT.of h), rfl, _, rfl, ?_⟩⟩
      rw [decide_eq_false (fun z => n (by injection z with z; omega))]
      exact iteF k
    | @pair q y z h ty tz =>
      refine ⟨_, rfl, _, _, rfl, .tup (tyX_t h), _, rfl, iteT ⟨_, rfl, _, _, rfl, .inr (SqT.of h), rfl, _, rfl, ?_⟩⟩
      refine iteT ⟨_, rfl, q, _, _, _, rfl, rfl, SqT.of h, atT0 _ _, _, rfl, q, _, _, _, rfl, rfl, SqT.of h, atT1 _ _ _, ?_⟩
      exact ⟨_, _, 400, rfl, ty, tz, k⟩
end
end LL
namespace LL
open PySem PySem.Spec PyProof.Rows L2
def genR : Stmt → Scope
  | .If (.BoolOp _ [_, .UnaryOp _ (.Call _ [.GeneratorExp _ _ sc _] _ _) _] _) _ _ _ => sc
  | _ => { kind := .function, names := [], isGenerator := false, isCoroutine := false }
abbrev gscR : Scope := genR ((defBody scisruns_st).getD 0 (.Pass ⟨0, 0, 0, 0⟩))
theorem gscR_names : gscR.names = [((".0" : Str), NameKind.local), (("stretch" : Str), NameKind.local), (("is_stretch" : Str), NameKind.globalImplicit)] := by decide +kernel
theorem genR_ok {env : Env} : GxR.GenS env gscR "stretch" := by
  refine ⟨by decide +kernel, by decide +kernel, ?_, by decide +kernel, by decide +kernel, ?_⟩
  · rw [gscR_names]
    decide +kernel
  · rw [gscR_names]
    intro y hy e
    simp only [List.mem_cons, List.not_mem_nil, or_false] at hy
    rcases hy with rfl | rfl | rfl <;> cases e
section
variable {P : Program} {w : World} {K : PySem.W.Frag} {mg : Str → Option Value} {base : Heap} {c tb : Addr}
def spIsRuns (K : PySem.W.Frag) (tb : Addr) : Sp := fun vs H Q _ => ∃ (x : V) (b : Bool), vs = [x] ∧ RunsB K H x b ∧ GxR.TabG H tb ∧ ∀ H', Nw tb H H' → Q (.bl b) H'
theorem ok_is_runs (D : Defs K mg) (T : Tx K mg) (hc : D.is_runs.fd.code = .ref c) (TB : GxR.TabB base mg c tb) : FnOk P w K mg base CX0 8 D.is_runs.f D.is_runs.fd ["thing"] (spIsRuns K tb) := by
  have Gruns_in := ok_runs_in (P := P) (w := w) (base := base) D T (tb := tb)
  have Gmask_of := ok_mask_of (P := P) (w := w) (base := base) D T
  have Gis_stretch := ok_is_stretch (P := P) (w := w) (base := base) D T
  refine okC D.is_runs.F hc scisruns (fun vs H Q E h => ?_) (fun A outer s H vs Q E hr h => ?_)
  · obtain ⟨x, b, rfl, _⟩ := h
    rfl
  · obtain ⟨x, b, rfl, ru, tab, k⟩ := h
    have GS := genR_ok (env := envOfC "is_runs" (defScope scisruns_st) s.heap.objs.size D.is_runs.f (.ref c))
    have hcode : (cxOf CX0 P w K mg base scisruns_N "is_runs" (defScope scisruns_st) D.is_runs.f (.ref c) A outer s H E).nox.env.code = .ref c := rfl
    refine ⟨_, (pss_cons (ps_if (PW.pt (pw_or (pt_not (pt_val (pe_callB call_is_list (by rfl) T.b_isinstance (by decide +kernel) (pa_cons (pv 0) (pa_cons (pe_bltn (v := .ty "list") (u := .type "list") (by rfl) T.b_list (by decide +kernel) rfl) pa_nil))))) (pw_or1 (pt_not (pt_val (pe_allL false (k := 4) [] hr (by rfl) T.b_all (by decide +kernel) TB hcode GS (pv 0) (by decide) (fun q hq => by cases hq) (fun cv s H ia A hrA => pcall D.is_stretch Gis_stretch hrA (by decide) (by rfl) (pa_cons (pv 0) pa_nil)) (fun _ => rfl))))))) (pss_one (ps_ret pe_bl)) pss_nil)
        (pss_one (ps_ret (pe_cmpR (op_eqD hr.units) (pcall D.runs_in Gruns_in hr (by decide) (by rfl) (pa_cons (pcall D.mask_of Gmask_of hr (by decide) (by rfl) (pa_cons (pv 0) pa_nil)) pa_nil)) (pv 0) (nomark _))))), ?_⟩
    -- the walk over the items
    have turn : ∀ (xs : List V) (bs : List Bool), StBs K H xs bs → ∀ (i : Nat) (v : V) (H' : Hp) (Q' : Hp → Prop), xs[i]? = some v → (GxR.Tabbed tb H H' ∧ ∀ j, j < i → bs[j]? = some true) →
        (bs.all id = false → Q' H') →
        (tCall (spStretch K) [] E0 (tCons (tVar 0) tNil)) [some v] H' fun y H'' => ∃ b, y = .bl b ∧ if b = true then (GxR.Tabbed tb H H'' ∧ ∀ j, j < i + 1 → bs[j]? = some true) else Q' H'' := by
      intro xs bs sts i v H' Q' hv ⟨t2, up⟩ no
      obtain ⟨b, hb, st⟩ := sts.get hv
      refine ⟨_, rfl, v, b, rfl, st.keep (Nw.of tab t2).keep, b, rfl, ?_⟩
      cases b with
      | true =>
        refine iteT ⟨t2, fun j hj => ?_⟩
        rcases Nat.lt_succ_iff_lt_or_eq.mp hj with l | rfl
        · exact up j l
        · exact hb
      | false =>
        refine iteF (no ?_)
        rw [List.all_eq_false]
        exact ⟨false, List.mem_of_getElem? hb, by simp⟩
    cases ru with
    | other h => exact ⟨_, rfl, _, _, rfl, h, _, rfl, iteT (k H (Nw.refl tab))⟩
    | @wrong a xs bs h sts n =>
      refine ⟨_, rfl, _, _, rfl, .lst (tyX_l h), _, rfl, iteF ?_⟩
      refine ⟨_, rfl, a, xs, rfl, SqL.of h, tab, fun i H' => GxR.Tabbed tb H H' ∧ ∀ j, j < i → bs[j]? = some true, fun H2 t2 => ⟨t2, fun j hj => absurd hj (Nat.not_lt_zero j)⟩,
        fun i H' p => SqL.of ((Nw.of tab p.1).lst h), fun i v H' hv p => turn xs bs sts i v H' _ hv p fun _ => ?_, fun H' p => ?_⟩
      · exact ⟨_, rfl, iteT (k _ (Nw.of tab p.1))⟩
      · exfalso
        rw [List.all_eq_false] at n
        obtain ⟨b, hb, nb⟩ := n
        obtain ⟨j, hj⟩ := List.mem_iff_getElem?.mp hb
        have := p.2 j (by rw [sts.len]; exact (List.getElem?_eq_some_iff.mp hj).1)
        rw [hj] at this
        cases this
        exact nb rfl
    | @row a r h v =>
      obtain ⟨qs, ha, pr⟩ := id h
      have sts := pr.sts (K := K) v
      refine ⟨_, rfl, _, _, rfl, .lst (tyX_l ha), _, rfl, iteF ?_⟩
      refine ⟨_, rfl, a, _, rfl, SqL.of ha, tab, fun i H' => GxR.Tabbed tb H H' ∧ ∀ j, j < i → (r.map fun _ => true)[j]? = some true, fun H2 t2 => ⟨t2, fun j hj => absurd hj (Nat.not_lt_zero j)⟩,
        fun i H' p => SqL.of ((Nw.of tab p.1).lst ha), fun i v H' hv p => turn _ _ sts i v H' _ hv p fun z => ?_, fun H' p => ?_⟩
      · exfalso
        rw [List.all_eq_false] at z
        obtain ⟨b, hb, nb⟩ := z
        obtain ⟨_, _, rfl⟩ := List.mem_map.mp hb
        exact nb rfl
      · have n1 := Nw.of tab p.1
        refine ⟨_, rfl, iteF ?_⟩
        refine ⟨_, rfl, a, r, rfl, (h.nw n1).sq, v, maskN r, rfl, mask_lt v, n1.tab, fun c' p' H2 tc hh nw hp row => ?_⟩
        have n2 := n1.trans nw
        refine ⟨_, rfl, rowDat c', rowDat r, row.dp, (h.nw n2).dp, rowDat_shaped _, rowDat_shaped _, ?_⟩
        have e : PyData.eqv (rowDat c') (rowDat r) = decide (Tidy r) := by
          rw [rowDat_eqv, decide_eq_decide]
          constructor
          · intro z
            rw [← z]
            exact tc
          · intro z
            exact tidy_eq tc z fun n => by rw [hh, mask_bit v]
        rw [e]
        exact k H2 n2
/-- an own error is raised with the thing v -/
def Rai (C : Addr) (v : V) (tb : Addr) (H : Hp) (E : XK) : Prop := ∀ d H', Nw tb H H' → H d = none → H' d = some (.xd [(("found" : Str), v)]) → E (.ref C) (some d) H'
theorem Rai.raise {C : Addr} {v : V} {tb d : Addr} {H H' : Hp} {E : XK} (h : Rai C v tb H E) (n : Nw tb H H') (hd : H' d = none) : E (.ref C) (some d) (L2.upd H' d (.xd [(("found" : Str), v)])) := h d _ (n.new hd) (n.free hd) upd_same
theorem Rai.at_ {C : Addr} {v : V} {tb : Addr} {H H1 : Hp} {E : XK} (h : Rai C v tb H E) (n : Nw tb H H1) : Rai C v tb H1 E := fun d H' n' hd e => h d H' (n.trans n') (n.free hd) e
def spMaskTidy (K : PySem.W.Frag) (C tb : Addr) : Sp := fun vs H Q E => ∃ (x : V) (b : Bool), vs = [x] ∧ RunsB K H x b ∧ GxR.TabG H tb ∧
  (∀ a r, b = true → x = .ref a → RowAt H a r → Tidy r → ∀ H', Nw tb H H' → Q (.int (maskN r : Nat)) H') ∧ (b = false → Rai C x tb H E)
theorem RunsB.true_row {K : PySem.W.Frag} {H : Hp} {x : V} {b : Bool} (h : RunsB K H x b) (e : b = true) : ∃ a r, x = .ref a ∧ RowAt H a r ∧ Valid r ∧ Tidy r := by
  cases h with
  | other _ => cases e
  | wrong _ _ _ => cases e
  | @row a r h v => exact ⟨a, r, rfl, h, v, of_decide_eq_true e⟩
theorem RunsB.nw {K : PySem.W.Frag} {H H' : Hp} {x : V} {b : Bool} (h : RunsB K H x b) (n : Nw tb H H') : RunsB K H' x b := by
  cases h with
  | other h => exact .other (h.keep n.keep)
  | wrong h s z => exact .wrong (n.lst h) (s.keep n.keep) z
  | row h v => exact .row (h.nw n) v
theorem ok_mask_of_tidy (D : Defs K mg) (T : Tx K mg) (hc : D.is_runs.fd.code = .ref c) (TB : GxR.TabB base mg c tb) : FnOk P w K mg base (CX P w) 9 D.mask_of_tidy.f D.mask_of_tidy.fd ["runs"] (spMaskTidy K D.erNoStretch.C tb) := by
  have GNoStretch___init__ := ok_NoStretch___init__ (P := P) (w := w) (base := base) D T
  have Gmask_of := ok_mask_of (P := P) (w := w) (base := base) D T
  have Gis_runs := ok_is_runs (P := P) (w := w) (base := base) D T hc TB
  refine D.mask_of_tidy.F.okX scmaskoftidy (fun vs H Q E h => ?_) (fun cdv A outer s H vs Q E hr h => ?_)
  · obtain ⟨x, b, rfl, _⟩ := h
    rfl
  · obtain ⟨x, b, rfl, ru, tab, k, kr⟩ := h
    refine ⟨_, (pss_cons (ps_if (pt_not (pt_val (pcall D.is_runs Gis_runs hr (by decide) (by rfl) (pa_cons (pv 0) pa_nil)))) (pss_one (ps_raise rfl (takes_of rfl rfl rfl rfl) (pmkE D.erNoStretch GNoStretch___init__ rfl rfl rfl rfl rfl hr (by decide) (by rfl) (pa_cons (pv 0) pa_nil)))) pss_nil)
        (pss_one (ps_ret (pcall D.mask_of Gmask_of hr (by decide) (by rfl) (pa_cons (pv 0) pa_nil))))), ?_⟩
    refine ⟨_, rfl, x, b, rfl, ru, tab, fun H' n => ⟨_, rfl, ?_⟩⟩
    cases hb : b with
    | false =>
      subst hb
      refine iteT ⟨_, rfl, mkE D.erNoStretch fun d hd => (kr rfl).raise n hd⟩
    | true =>
      obtain ⟨a, r, rfl, row, va, ti⟩ := ru.true_row hb
      refine iteF ⟨_, rfl, a, r, rfl, (row.nw n).sq, va, ?_⟩
      exact k a r hb rfl row ti H' n
/-- two things that may be tidy rows -/
def spTwo (K : PySem.W.Frag) (C tb : Addr) : Sp := fun vs H Q E => ∃ (x y : V) (b d : Bool), vs = [x, y] ∧ RunsB K H x b ∧ RunsB K H y d ∧ GxR.TabG H tb ∧
  (b = true → d = true → ∀ v H', Nw tb H H' → Q v H') ∧ (b = false → Rai C x tb H E) ∧ (b = true → d = false → Rai C y tb H E)
theorem ok_joined_runs (D : Defs K mg) (T : Tx K mg) (hc : D.is_runs.fd.code = .ref c) (TB : GxR.TabB base mg c tb) : FnOk P w K mg base (CX P w) 10 D.joined_runs.f D.joined_runs.fd ["one", "other"] (spTwo K D.erNoStretch.C tb) := by
  have Gmask_of_tidy := ok_mask_of_tidy (P := P) (w := w) (base := base) D T hc TB
  have Gruns_in := ok_runs_in (P := P) (w := w) (base := base) D T (tb := tb)
  refine D.joined_runs.F.okX scjoinedruns (fun vs H Q E h => ?_) (fun cdv A outer s H vs Q E hr h => ?_)
  · obtain ⟨x, y, b, d, rfl, _⟩ := h
    rfl
  · obtain ⟨x, y, b, d, rfl, rx, ry, tab, k, k1, k2⟩ := h
    refine ⟨_, (pss_cons (ps_set (i := 2) scjoinedruns.nd rfl (Or.inl rfl) (pcallX D.mask_of_tidy Gmask_of_tidy (takes_of rfl rfl rfl rfl) hr (by decide) (by rfl) (pa_cons (pv 0) pa_nil)))
        (pss_cons (ps_set (i := 3) scjoinedruns.nd rfl (Or.inl rfl) (pcallX D.mask_of_tidy Gmask_of_tidy (takes_of rfl rfl rfl rfl) hr (by decide) (by rfl) (pa_cons (pv 1) pa_nil)))
        (pss_one (ps_ret (pcall D.runs_in Gruns_in hr (by decide) (by rfl) (pa_cons (pe_op op_or (pv 2) (pv 3)) pa_nil)))))), ?_⟩
    refine ⟨_, rfl, x, b, rfl, rx, tab, ?_, fun hb => k1 hb⟩
    rintro a r hb rfl rowa tr H1 n1
    refine ⟨_, rfl, y, d, rfl, ry.nw n1, n1.tab, ?_, fun hd => (k2 hb hd).at_ n1⟩
    rintro a2 q hd rfl rowb tq H2 n2
    have vr := TidyFrom.valid (b := 0) tr
    have vq := TidyFrom.valid (b := 0) tq
    have bit : ∀ n, (maskN r ||| maskN q).testBit n = (has r n || has q n) := fun n => by rw [Nat.testBit_or, mask_bit vr, mask_bit vq]
    refine ⟨_, rfl, _, rfl, _, _, rfl, rfl, maskN r ||| maskN q, congrArg (fun y : Int => [V.int y]) (or_masks _ _), lt_of_bits fun n z => ?_, n2.tab, fun t p H' tt hh nw hp row => ?_⟩
    · rw [bit] at z
      rcases Bool.or_eq_true_iff.mp z with z | z
      · exact has_lt vr z
      · exact has_lt vq z
    · exact k hb hd _ _ ((n1.trans n2).trans nw)
theorem ok_common_runs (D : Defs K mg) (T : Tx K mg) (hc : D.is_runs.fd.code = .ref c) (TB : GxR.TabB base mg c tb) : FnOk P w K mg base (CX P w) 10 D.common_runs.f D.common_runs.fd ["one", "other"] (spTwo K D.erNoStretch.C tb) := by
  have Gmask_of_tidy := ok_mask_of_tidy (P := P) (w := w) (base := base) D T hc TB
  have Gruns_in := ok_runs_in (P := P) (w := w) (base := base) D T (tb := tb)
  refine D.common_runs.F.okX sccommonruns (fun vs H Q E h => ?_) (fun cdv A outer s H vs Q E hr h => ?_)
  · obtain ⟨x, y, b, d, rfl, _⟩ := h
    rfl
  · obtain ⟨x, y, b, d, rfl, rx, ry, tab, k, k1, k2⟩ := h
    refine ⟨_, (pss_cons (ps_set (i := 2) sccommonruns.nd rfl (Or.inl rfl) (pcallX D.mask_of_tidy Gmask_of_tidy (takes_of rfl rfl rfl rfl) hr (by decide) (by rfl) (pa_cons (pv 0) pa_nil)))
        (pss_cons (ps_set (i := 3) sccommonruns.nd rfl (Or.inl rfl) (pcallX D.mask_of_tidy Gmask_of_tidy (takes_of rfl rfl rfl rfl) hr (by decide) (by rfl) (pa_cons (pv 1) pa_nil)))
        (pss_one (ps_ret (pcall D.runs_in Gruns_in hr (by decide) (by rfl) (pa_cons (pe_op op_and (pv 2) (pv 3)) pa_nil)))))), ?_⟩
    refine ⟨_, rfl, x, b, rfl, rx, tab, ?_, fun hb => k1 hb⟩
    rintro a r hb rfl rowa tr H1 n1
    refine ⟨_, rfl, y, d, rfl, ry.nw n1, n1.tab, ?_, fun hd => (k2 hb hd).at_ n1⟩
    rintro a2 q hd rfl rowb tq H2 n2
    have vr := TidyFrom.valid (b := 0) tr
    have vq := TidyFrom.valid (b := 0) tq
    have bit : ∀ n, (maskN r &&& maskN q).testBit n = (has r n && has q n) := fun n => by rw [Nat.testBit_and, mask_bit vr, mask_bit vq]
    refine ⟨_, rfl, _, rfl, _, _, rfl, rfl, maskN r &&& maskN q, congrArg (fun y : Int => [V.int y]) (and_masks _ _), lt_of_bits fun n z => ?_, n2.tab, fun t p H' tt hh nw hp row => ?_⟩
    · rw [bit] at z
      exact has_lt vr (Bool.and_eq_true_iff.mp z).1
    · exact k hb hd _ _ ((n1.trans n2).trans nw)
theorem ok_less_runs (D : Defs K mg) (T : Tx K mg) (hc : D.is_runs.fd.code = .ref c) (TB : GxR.TabB base mg c tb) : FnOk P w K mg base (CX P w) 10 D.less_runs.f D.less_runs.fd ["one", "other"] (spTwo K D.erNoStretch.C tb) := by
  have Gmask_of_tidy := ok_mask_of_tidy (P := P) (w := w) (base := base) D T hc TB
  have Gruns_in := ok_runs_in (P := P) (w := w) (base := base) D T (tb := tb)
  refine D.less_runs.F.okX sclessruns (fun vs H Q E h => ?_) (fun cdv A outer s H vs Q E hr h => ?_)
  · obtain ⟨x, y, b, d, rfl, _⟩ := h
    rfl
  · obtain ⟨x, y, b, d, rfl, rx, ry, tab, k, k1, k2⟩ := h
    refine ⟨_, (pss_cons (ps_set (i := 2) sclessruns.nd rfl (Or.inl rfl) (pcallX D.mask_of_tidy Gmask_of_tidy (takes_of rfl rfl rfl rfl) hr (by decide) (by rfl) (pa_cons (pv 0) pa_nil)))
        (pss_cons (ps_set (i := 3) sclessruns.nd rfl (Or.inl rfl) (pcallX D.mask_of_tidy Gmask_of_tidy (takes_of rfl rfl rfl rfl) hr (by decide) (by rfl) (pa_cons (pv 1) pa_nil)))
        (pss_one (ps_ret (pcall D.runs_in Gruns_in hr (by decide) (by rfl) (pa_cons (pe_op op_and (pv 2) (pe_un un_inv (pv 3))) pa_nil)))))), ?_⟩
    refine ⟨_, rfl, x, b, rfl, rx, tab, ?_, fun hb => k1 hb⟩
    rintro a r hb rfl rowa tr H1 n1
    refine ⟨_, rfl, y, d, rfl, ry.nw n1, n1.tab, ?_, fun hd => (k2 hb hd).at_ n1⟩
    rintro a2 q hd rfl rowb tq H2 n2
    have vr := TidyFrom.valid (b := 0) tr
    have vq := TidyFrom.valid (b := 0) tq
    have bit : ∀ n, (maskN r - (maskN r &&& maskN q)).testBit n = (has r n && !has q n) := fun n => by rw [less_bit, mask_bit vr, mask_bit vq]
    refine ⟨_, rfl, _, rfl, _, rfl, _, _, rfl, rfl, maskN r - (maskN r &&& maskN q), congrArg (fun y : Int => [V.int y]) (less_masks _ _), lt_of_bits fun n z => ?_, n2.tab, fun t p H' tt hh nw hp row => ?_⟩
    · rw [bit] at z
      exact has_lt vr (Bool.and_eq_true_iff.mp z).1
    · exact k hb hd _ _ ((n1.trans n2).trans nw)
end
end LL
namespace LL
open PySem PySem.Spec PyProof.Rows L2
section
variable {P : Program} {w : World} {K : PySem.W.Frag} {mg : Str → Option Value} {base : Heap} {c tb : Addr}
theorem isSeq_of {K : PySem.W.Frag} {H : Hp} {a : Addr} {xs : List V} (h : H a = some (.lst xs) ∨ H a = some (.tup xs)) : IsSeq K H (.ref a) true := by
  rcases h with h | h
  · exact .lst (tyX_l h)
  · exact .tup (tyX_t h)
theorem span_true {y z : V} (h : spanV y z 400 = true) : ∃ p : Pr, y = .int (p.1 : Int) ∧ z = .int (p.2 : Int) ∧ p.1 < p.2 ∧ p.2 ≤ 400 := by
  cases y with
  | int b =>
    have h : (within (.int b) 0 400 && within z (b + 1) 400) = true := h
    obtain ⟨h1, h2⟩ := Bool.and_eq_true_iff.mp h
    have h1 : (decide (0 ≤ b) && decide (b ≤ 400)) = true := h1
    obtain ⟨h1, _⟩ := Bool.and_eq_true_iff.mp h1
    have h1 := of_decide_eq_true h1
    cases z with
    | int e =>
      have h2 : (decide (b + 1 ≤ e) && decide (e ≤ 400)) = true := h2
      obtain ⟨h2, h3⟩ := Bool.and_eq_true_iff.mp h2
      have h2 := of_decide_eq_true h2
      have h3 := of_decide_eq_true h3
      refine ⟨(b.toNat, e.toNat), ?_, ?_, ?_, ?_⟩
      · exact congrArg V.int (Int.toNat_of_nonneg h1).symm
      · exact congrArg V.int (Int.toNat_of_nonneg (by omega)).symm
      · show b.toNat < e.toNat
        omega
      · show e.toNat ≤ 400
        omega
    | _ => cases h2
  | _ => cases h
theorem StB.row {K : PySem.W.Frag} {H : Hp} {x : V} {b : Bool} (h : StB K H x b) (e : b = true) : ∃ (q : Addr) (p : Pr), x = .ref q ∧ H q = some (.tup [.int (p.1 : Int), .int (p.2 : Int)]) ∧ p.1 < p.2 ∧ p.2 ≤ 400 := by
  cases h with
  | other _ => cases e
  | wrong _ _ => cases e
  | @pair q y z h _ _ =>
    obtain ⟨p, rfl, rfl, lt, le⟩ := span_true e
    exact ⟨q, p, rfl, h, lt, le⟩
/-- stretches all of which are good: a row -/
theorem StBs.row {K : PySem.W.Frag} {H : Hp} {xs : List V} {bs : List Bool} (h : StBs K H xs bs) : bs.all id = true → ∃ (qs : List Addr) (r : List Pr), xs = qs.map V.ref ∧ PrsAt H qs r ∧ Valid r := by
  induction h with
  | nil => exact fun _ => ⟨[], [], rfl, .nil, fun z hz => (nomatch hz)⟩
  | @cons x b xs bs h t ih =>
    intro al
    rw [List.all_cons, Bool.and_eq_true] at al
    obtain ⟨q, p, rfl, hq, lt, le⟩ := h.row al.1
    obtain ⟨qs, r, rfl, pr, va⟩ := ih al.2
    refine ⟨q :: qs, p :: r, rfl, .cons hq pr, fun z hz => ?_⟩
    rcases List.mem_cons.mp hz with rfl | hz
    · exact ⟨lt, le⟩
    · exact va z hz
/-- a list of them is a tidy row or none -/
theorem StBs.runs {K : PySem.W.Frag} {H : Hp} {a : Addr} {xs : List V} {bs : List Bool} (h : StBs K H xs bs) (e : H a = some (.lst xs)) : ∃ b, RunsB K H (.ref a) b := by
  cases al : bs.all id with
  | false => exact ⟨_, .wrong e h al⟩
  | true =>
    obtain ⟨qs, r, rfl, pr, va⟩ := h.row al
    exact ⟨_, .row ⟨qs, e, pr⟩ va⟩
/-- the first that is none -/
def FirstBad (xs : List V) (bs : List Bool) (v : V) : Prop := ∃ i : Nat, xs[i]? = some v ∧ bs[i]? = some false ∧ ∀ j : Nat, j < i → bs[j]? = some true
def spRunsOf (K : PySem.W.Frag) (C tb : Addr) : Sp := fun vs H Q E => ∃ x, vs = [x] ∧ GxR.TabG H tb ∧ ((IsSeq K H x false ∧ Rai C x tb H E) ∨
  ∃ (a : Addr) (xs : List V) (bs : List Bool), x = .ref a ∧ (H a = some (.lst xs) ∨ H a = some (.tup xs)) ∧ StBs K H xs bs ∧ (bs.all id = true → ∀ v H', Nw tb H H' → Q v H') ∧ ∀ v, FirstBad xs bs v → Rai C v tb H E)
theorem ok_runs_of (D : Defs K mg) (T : Tx K mg) (hc : D.is_runs.fd.code = .ref c) (TB : GxR.TabB base mg c tb) : FnOk P w K mg base (CX P w) 5 D.runs_of.f D.runs_of.fd ["stretches"] (spRunsOf K D.erNoStretch.C tb) := by
  have GNoStretch___init__ := ok_NoStretch___init__ (P := P) (w := w) (base := base) D T
  have Gruns_in := ok_runs_in (P := P) (w := w) (base := base) D T (tb := tb)
  have Gmask_of := ok_mask_of (P := P) (w := w) (base := base) D T
  have Gis_stretch := ok_is_stretch (P := P) (w := w) (base := base) D T
  refine D.runs_of.F.okX scrunsof (fun vs H Q E h => ?_) (fun cdv A outer s H vs Q E hr h => ?_)
  · obtain ⟨x, rfl, _⟩ := h
    rfl
  · obtain ⟨x, rfl, tab, h⟩ := h
    refine ⟨_, (pss_cons (ps_if (pt_not (pt_val (pe_callB call_is_seq (by rfl) T.b_isinstance (by decide +kernel) (pa_cons (pv 0) (pa_cons (pe_tup (pa_cons (pe_bltn (v := .ty "list") (u := .type "list") (by rfl) T.b_list (by decide +kernel) rfl) (pa_cons (pe_bltn (v := .ty "tuple") (u := .type "tuple") (by rfl) T.b_tuple (by decide +kernel) rfl) pa_nil))) pa_nil))))) (pss_one (ps_raise rfl (takes_of rfl rfl rfl rfl) (pmkE D.erNoStretch GNoStretch___init__ rfl rfl rfl rfl rfl hr (by decide) (by rfl) (pa_cons (pv 0) pa_nil)))) pss_nil)
        (pss_cons (ps_for PassesOwn.leaving rfl (pi_seq (pv 0)) (pg_name (i := 1) scrunsof.nd rfl (Or.inl rfl)) (pss_one (ps_if (pt_not (pt_val (pcall D.is_stretch Gis_stretch hr (by decide) (by rfl) (pa_cons (pv 1) pa_nil)))) (pss_one (ps_raise rfl (takes_of rfl rfl rfl rfl) (pmkE D.erNoStretch GNoStretch___init__ rfl rfl rfl rfl rfl hr (by decide) (by rfl) (pa_cons (pv 1) pa_nil)))) pss_nil)))
        (pss_one (ps_ret (pcall D.runs_in Gruns_in hr (by decide) (by rfl) (pa_cons (pcall D.mask_of Gmask_of hr (by decide) (by rfl) (pa_cons (pv 0) pa_nil)) pa_nil)))))), ?_⟩
    refine ⟨_, rfl, (by show 2 ≤ sizeLine; decide), fun tp htp => ?_⟩
    have n1 := (Nw.refl tab).new htp (u := .tup [.ty "list", .ty "tuple"])
    have e1 : (upd H tp (.tup [.ty "list", .ty "tuple"])) tp = some (.tup [.ty "list", .ty "tuple"]) := upd_same
    generalize upd H tp (.tup [.ty "list", .ty "tuple"]) = H1 at n1 e1 ⊢
    rcases h with ⟨no, kr⟩ | ⟨a, xs, bs, rfl, hs, sts, k, kr⟩
    · exact ⟨_, tp, _, rfl, e1, no.keep n1.keep, _, rfl, iteT ⟨_, rfl, mkE D.erNoStretch fun d hd => kr.raise n1 hd⟩⟩
    · have sts1 := sts.keep n1.keep
      have hs1 : H1 a = some (.lst xs) ∨ H1 a = some (.tup xs) := by
        rcases hs with h | h
        · exact .inl (n1.lst h)
        · exact .inr (n1.tup h)
      refine ⟨_, tp, _, rfl, e1, isSeq_of hs1, _, rfl, iteF ?_⟩
      have after : (∀ j, j < xs.length → bs[j]? = some true) → ∃ r : List Pr, RowSq H1 a r ∧ Valid r ∧ spRunsIn tb [.int (maskN r : Nat)] H1 Q E := by
        intro up
        have al : bs.all id = true := by
          rw [List.all_eq_true]
          intro b hb
          obtain ⟨j, hj⟩ := List.mem_iff_getElem?.mp hb
          have := up j (by rw [sts.len]; exact (List.getElem?_eq_some_iff.mp hj).1)
          rw [hj] at this
          cases this
          rfl
        obtain ⟨qs, r, rfl, pr, va⟩ := sts1.row al
        exact ⟨r, ⟨qs, hs1, pr⟩, va, maskN r, rfl, mask_lt va, n1.tab, fun t p H' tt hh nw hp row' => k al _ _ (n1.trans nw)⟩
      have turn : ∀ (i : Nat) (v : V), xs[i]? = some v → (∀ j, j < i → bs[j]? = some true) → ∃ b, StB K H1 v b ∧ ((b = true ∧ ∀ j, j < i + 1 → bs[j]? = some true) ∨ (b = false ∧ Rai D.erNoStretch.C v tb H E)) := by
        intro i v hv up
        obtain ⟨b, hb, st⟩ := sts1.get hv
        refine ⟨b, st, ?_⟩
        cases b with
        | true =>
          refine .inl ⟨rfl, fun j hj => ?_⟩
          rcases Nat.lt_succ_iff_lt_or_eq.mp hj with l | rfl
          · exact up j l
          · exact hb
        | false => exact .inr ⟨rfl, kr v ⟨i, hv, hb, up⟩⟩
      refine ⟨_, rfl, a, rfl, ?_⟩
      rcases hs1 with ha | ha
      · refine .inl ⟨⟨_, SqL.of ha⟩, for_list (K := K) (a := a) (xs := xs) (fun i σ H' => H' = H1 ∧ (∀ j, j < i → bs[j]? = some true) ∧ ∃ v1, σ = [some (.ref a), v1]) ⟨rfl, fun j hj => absurd hj (Nat.not_lt_zero j), _, rfl⟩ (fun i σ H' _ q => by rw [q.1]; exact SqL.of ha) ?_ ?_⟩
        · rintro i x σ H' hx ⟨rfl, up, v1, rfl⟩
          obtain ⟨b, st, ⟨rfl, up2⟩ | ⟨rfl, rai⟩⟩ := turn i x hx up
          · exact ⟨_, rfl, x, true, rfl, st, _, rfl, iteF ⟨rfl, up2, _, rfl⟩⟩
          · exact ⟨_, rfl, x, false, rfl, st, _, rfl, iteT ⟨_, rfl, mkE D.erNoStretch fun d hd => rai.raise n1 hd⟩⟩
        · rintro σ H' ⟨rfl, up, v1, rfl⟩
          obtain ⟨r, row, va, fin⟩ := after up
          exact ⟨_, rfl, a, r, rfl, row, va, fin⟩
      · refine .inr ⟨⟨_, SqT.of ha⟩, for_tup (K := K) (a := a) (xs := xs) (fun i σ H' => H' = H1 ∧ (∀ j, j < i → bs[j]? = some true) ∧ ∃ v1, σ = [some (.ref a), v1]) ⟨rfl, fun j hj => absurd hj (Nat.not_lt_zero j), _, rfl⟩ (fun i σ H' _ q => by rw [q.1]; exact SqT.of ha) ?_ ?_⟩
        · rintro i x σ H' hx ⟨rfl, up, v1, rfl⟩
          obtain ⟨b, st, ⟨rfl, up2⟩ | ⟨rfl, rai⟩⟩ := turn i x hx up
          · exact ⟨_, rfl, x, true, rfl, st, _, rfl, iteF ⟨rfl, up2, _, rfl⟩⟩
          · exact ⟨_, rfl, x, false, rfl, st, _, rfl, iteT ⟨_, rfl, mkE D.erNoStretch fun d hd => rai.raise n1 hd⟩⟩
        · rintro σ H' ⟨rfl, up, v1, rfl⟩
          obtain ⟨r, row, va, fin⟩ := after up
          exact ⟨_, rfl, a, r, rfl, row, va, fin⟩
end
end LL
namespace LL
open PySem PySem.Spec PyProof.Rows L2
section
variable {P : Program} {w : World} {K : PySem.W.Frag} {mg : Str → Option Value} {base : Heap} {c tb : Addr}
/-- the first thing that is no number -/
def BadNum (xs : List V) (v : V) : Prop := ∃ i : Nat, xs[i]? = some v ∧ within v 0 399 = false ∧ ∀ (j : Nat) (u : V), j < i → xs[j]? = some u → within u 0 399 = true
theorem within_true {v : V} (h : within v 0 399 = true) : ∃ n : Nat, v = .int (n : Int) ∧ n < 400 := by
  cases v with
  | int i =>
    have h : (decide (0 ≤ i) && decide (i ≤ 399)) = true := h
    obtain ⟨a, b⟩ := Bool.and_eq_true_iff.mp h
    have a := of_decide_eq_true a
    have b := of_decide_eq_true b
    exact ⟨i.toNat, congrArg V.int (Int.toNat_of_nonneg a).symm, by omega⟩
  | _ => cases h
/-- numbers, one of which is none -/
def spRunsBy (K : PySem.W.Frag) (C tb : Addr) : Sp := fun vs H Q E => ∃ x, vs = [x] ∧ GxR.TabG H tb ∧ ((IsSeq K H x false ∧ Rai C x tb H E) ∨
  ∃ (a : Addr) (xs : List V) (v : V), x = .ref a ∧ (H a = some (.lst xs) ∨ H a = some (.tup xs)) ∧ (∀ u ∈ xs, Thing K H u) ∧ BadNum xs v ∧ Rai C v tb H E)
theorem ok_runs_by (D : Defs K mg) (T : Tx K mg) (hc : D.is_runs.fd.code = .ref c) (TB : GxR.TabB base mg c tb) : FnOk P w K mg base (CX P w) 3 D.runs_by.f D.runs_by.fd ["numbers"] (spRunsBy K D.erNoNumber.C tb) := by
  have GNoNumber___init__ := ok_NoNumber___init__ (P := P) (w := w) (base := base) D T
  have Gruns_in := ok_runs_in (P := P) (w := w) (base := base) D T (tb := tb)
  have Gis_within := ok_is_within (P := P) (w := w) (base := base) D T
  refine D.runs_by.F.okX scrunsby (fun vs H Q E h => ?_) (fun cdv A outer s H vs Q E hr h => ?_)
  · obtain ⟨x, rfl, _⟩ := h
    rfl
  · obtain ⟨x, rfl, tab, h⟩ := h
    refine ⟨_, (pss_cons (ps_if (pt_not (pt_val (pe_callB call_is_seq (by rfl) T.b_isinstance (by decide +kernel) (pa_cons (pv 0) (pa_cons (pe_tup (pa_cons (pe_bltn (v := .ty "list") (u := .type "list") (by rfl) T.b_list (by decide +kernel) rfl) (pa_cons (pe_bltn (v := .ty "tuple") (u := .type "tuple") (by rfl) T.b_tuple (by decide +kernel) rfl) pa_nil))) pa_nil))))) (pss_one (ps_raise rfl (takes_of rfl rfl rfl rfl) (pmkE D.erNoNumber GNoNumber___init__ rfl rfl rfl rfl rfl hr (by decide) (by rfl) (pa_cons (pv 0) pa_nil)))) pss_nil)
        (pss_cons (ps_set (i := 1) scrunsby.nd rfl (Or.inl rfl) pe_int)
        (pss_cons (ps_for PassesOwn.leaving rfl (pi_seq (pv 0)) (pg_name (i := 2) scrunsby.nd rfl (Or.inl rfl)) (pss_cons (ps_if (pt_not (pt_val (pcall D.is_within Gis_within hr (by decide) (by rfl) (pa_cons (pv 2) (pa_cons pe_int (pa_cons (pe_op op_sub (pe_glob (v := .int 400) (by rfl) T.g_MOST_END ⟨_, rfl⟩) pe_int) pa_nil)))))) (pss_one (ps_raise rfl (takes_of rfl rfl rfl rfl) (pmkE D.erNoNumber GNoNumber___init__ rfl rfl rfl rfl rfl hr (by decide) (by rfl) (pa_cons (pv 2) pa_nil)))) pss_nil)
        (pss_one (ps_aug (i := 1) scrunsby.nd rfl (Or.inl rfl) (pe_op op_shl pe_int (pv 2)) iop_or))))
        (pss_one (ps_ret (pcall D.runs_in Gruns_in hr (by decide) (by rfl) (pa_cons (pv 1) pa_nil))))))), ?_⟩
    refine ⟨_, rfl, (by show 2 ≤ sizeLine; decide), fun tp htp => ?_⟩
    have n1 := (Nw.refl tab).new htp (u := .tup [.ty "list", .ty "tuple"])
    have e1 : (upd H tp (.tup [.ty "list", .ty "tuple"])) tp = some (.tup [.ty "list", .ty "tuple"]) := upd_same
    generalize upd H tp (.tup [.ty "list", .ty "tuple"]) = H1 at n1 e1 ⊢
    rcases h with ⟨no, kr⟩ | ⟨a, xs, v, rfl, hs, th, ⟨m, hm, bad, ahead⟩, kr⟩
    · exact ⟨_, tp, _, rfl, e1, no.keep n1.keep, _, rfl, iteT ⟨_, rfl, mkE D.erNoNumber fun d hd => kr.raise n1 hd⟩⟩
    · have hs1 : H1 a = some (.lst xs) ∨ H1 a = some (.tup xs) := by
        rcases hs with h | h
        · exact .inl (n1.lst h)
        · exact .inr (n1.tup h)
      refine ⟨_, tp, _, rfl, e1, isSeq_of hs1, _, rfl, iteF ?_⟩
      have ml : m < xs.length := (List.getElem?_eq_some_iff.mp hm).1
      refine ⟨_, rfl, a, rfl, ?_⟩
      rcases hs1 with ha | ha
      · refine .inl ⟨⟨_, SqL.of ha⟩, for_list (K := K) (a := a) (xs := xs) (fun i σ H' => H' = H1 ∧ i ≤ m ∧ ∃ (z : Int) (v1 : Option V), σ = [some (.ref a), some (.int z), v1]) ⟨rfl, Nat.zero_le _, _, _, rfl⟩ (fun i σ H' _ q => by rw [q.1]; exact SqL.of ha) ?_ ?_⟩
        · rintro i x σ H' hx ⟨rfl, le, z, v1, rfl⟩
          refine ⟨_, rfl, _, _, rfl, rfl, _, 0, 399, rfl, (th x (List.mem_of_getElem? hx)).keep n1.keep, ?_⟩
          refine ⟨_, rfl, ?_⟩
          rcases Nat.lt_or_eq_of_le le with l | rfl
          · have ok := ahead i x l hx
            obtain ⟨n, rfl, lt⟩ := within_true ok
            rw [ok]
            exact iteF ⟨_, rfl, _, rfl, _, _, rfl, rfl, ⟨by omega, by omega, by decide⟩, _, _, rfl, rfl, rfl, l, _, _, rfl⟩
          · rw [hm] at hx
            cases hx
            rw [bad]
            exact iteT ⟨_, rfl, mkE D.erNoNumber fun d hd => kr.raise n1 hd⟩
        · rintro σ H' ⟨rfl, le, _⟩
          omega
      · refine .inr ⟨⟨_, SqT.of ha⟩, for_tup (K := K) (a := a) (xs := xs) (fun i σ H' => H' = H1 ∧ i ≤ m ∧ ∃ (z : Int) (v1 : Option V), σ = [some (.ref a), some (.int z), v1]) ⟨rfl, Nat.zero_le _, _, _, rfl⟩ (fun i σ H' _ q => by rw [q.1]; exact SqT.of ha) ?_ ?_⟩
        · rintro i x σ H' hx ⟨rfl, le, z, v1, rfl⟩
          refine ⟨_, rfl, _, _, rfl, rfl, _, 0, 399, rfl, (th x (List.mem_of_getElem? hx)).keep n1.keep, ?_⟩
          refine ⟨_, rfl, ?_⟩
          rcases Nat.lt_or_eq_of_le le with l | rfl
          · have ok := ahead i x l hx
            obtain ⟨n, rfl, lt⟩ := within_true ok
            rw [ok]
            exact iteF ⟨_, rfl, _, rfl, _, _, rfl, rfl, ⟨by omega, by omega, by decide⟩, _, _, rfl, rfl, rfl, l, _, _, rfl⟩
          · rw [hm] at hx
            cases hx
            rw [bad]
            exact iteT ⟨_, rfl, mkE D.erNoNumber fun d hd => kr.raise n1 hd⟩
        · rintro σ H' ⟨rfl, le, _⟩
          omega
def nums (r : List Pr) : List V := (numsOf r).map fun n : Nat => V.int (n : Int)
/-- the numbers of a tidy row, a new list -/
def spNumbers (K : PySem.W.Frag) (C tb : Addr) : Sp := fun vs H Q E => ∃ (x : V) (b : Bool), vs = [x] ∧ RunsB K H x b ∧ GxR.TabG H tb ∧
  (b = true → ∀ (r : List Pr) (p : Addr) (H' : Hp), Nw tb H H' → H p = none → H' p = some (.lst (nums r)) → Q (.ref p) H') ∧ (b = false → Rai C x tb H E)
theorem ok_numbers_in (D : Defs K mg) (T : Tx K mg) (hc : D.is_runs.fd.code = .ref c) (TB : GxR.TabB base mg c tb) : FnOk P w K mg base (CX P w) 9 D.numbers_in.f D.numbers_in.fd ["runs"] (spNumbers K D.erNoStretch.C tb) := by
  have GNoStretch___init__ := ok_NoStretch___init__ (P := P) (w := w) (base := base) D T
  have Gis_runs := ok_is_runs (P := P) (w := w) (base := base) D T hc TB
  refine D.numbers_in.F.okX scnumbersin (fun vs H Q E h => ?_) (fun cdv A outer s H vs Q E hr h => ?_)
  · obtain ⟨x, b, rfl, _⟩ := h
    rfl
  · obtain ⟨x, b, rfl, ru, tab, k, kr⟩ := h
    refine ⟨_, (pss_cons (ps_if (pt_not (pt_val (pcall D.is_runs Gis_runs hr (by decide) (by rfl) (pa_cons (pv 0) pa_nil)))) (pss_one (ps_raise rfl (takes_of rfl rfl rfl rfl) (pmkE D.erNoStretch GNoStretch___init__ rfl rfl rfl rfl rfl hr (by decide) (by rfl) (pa_cons (pv 0) pa_nil)))) pss_nil)
        (pss_one (ps_ret (pe_lc2 (own := [("begin", 1), ("end", 2), ("number", 3)]) (vs1 := [3]) rfl scnumbersin.nd (pi_list (pv 0)) (blkOk_by (N := scnumbersin_N) (sc := defScope scnumbersin_st) (by decide +kernel)) (by decide) (fun _ _ _ _ _ => (pg_tupK (K := K) (n := 2) rfl rfl (pgs_cons (pg_name (i := 1) scnumbersin.nd rfl (Or.inl rfl)) (pgs_cons (pg_name (i := 2) scnumbersin.nd rfl (Or.inl rfl)) pgs_nil)))) (fun _ _ _ _ _ => pts_nil) (fun _ _ _ _ _ => (pi_range2 rfl T.b_range (pa_cons (pv 1) (pa_cons (pv 2) pa_nil)))) (fun _ _ _ _ _ => (pg_name (i := 3) scnumbersin.nd rfl (Or.inl rfl))) (fun _ _ _ _ _ => pts_nil) (fun _ _ _ _ _ => (pv 3)))))), ?_⟩
    refine ⟨_, rfl, x, b, rfl, ru, tab, fun H1 n1 => ⟨_, rfl, ?_⟩⟩
    cases hb : b with
    | false =>
      subst hb
      exact iteT ⟨_, rfl, mkE D.erNoStretch fun d hd => (kr rfl).raise n1 hd⟩
    | true =>
      obtain ⟨a, r, rfl, row, va, ti⟩ := ru.true_row hb
      have k := k hb r
      refine iteF ?_
      obtain ⟨qs, ha, pr⟩ := row.nw n1
      refine ⟨_, rfl, a, rfl, ⟨_, SqL.of ha⟩, fun p hp => ?_⟩
      have np := ne_of_none ha hp
      have p0 := n1.free hp
      refine lc2_rows (K := K) (a := a) (xs := qs.map V.ref) (fun i H' => Nw tb H1 H' ∧ H' p = some (.lst (((List.range (upTo r i)).filter (has r)).map fun n : Nat => V.int (n : Int))))
        ⟨(Nw.refl n1.tab).new hp, ?_⟩ (fun i H' _ q => SqL.of (q.1.lst ha)) ?_ ?_
      · rw [upd_same, filt_gap (Nat.zero_le _) (fun n _ u => upTo_first ti n u)]
        rfl
      · rintro i x H2 hx ⟨n2, e2⟩
        rw [List.getElem?_map] at hx
        cases hq : qs[i]? with
        | none => rw [hq] at hx; cases hx
        | some q =>
          rw [hq] at hx
          obtain rfl : V.ref q = x := Option.some.inj hx
          obtain ⟨z, hz, hqt⟩ := pr.get hq
          obtain ⟨z1, z2⟩ := va z (List.mem_of_getElem? hz)
          obtain ⟨g1, g2⟩ := upTo_gap ti hz
          rw [upTo_in hz] at e2
          refine ⟨q, _, rfl, SqT.of (n2.tup hqt), rfl, _, _, rfl, _, _, rfl, rfl, rfl, ?_⟩
          refine ⟨_, rfl, _, rfl, _, _, rfl, ⟨by omega, by omega, by omega, by omega⟩, ?_⟩
          refine lc2_nums (lo := (z.1 : Int)) (n := ((z.2 : Int) - (z.1 : Int)).toNat) (fun j H' => Nw tb H1 H' ∧ H' p = some (.lst (((List.range (z.1 + j)).filter (has r)).map fun n : Nat => V.int (n : Int)))) ⟨n2, e2⟩ ?_ ?_
          · rintro j H3 hj ⟨n3, e3⟩
            have in_ := has_at hz (show z.1 ≤ z.1 + j by omega) (show z.1 + j < z.2 by omega)
            have len : ((List.range (z.1 + j)).filter (has r)).length ≤ z.1 + j := by
              have := List.length_filter_le (has r) (List.range (z.1 + j))
              rw [List.length_range] at this
              exact this
            refine ⟨rfl, _, rfl, _, e3, ?_, n3.put hp e3 (fun q z => by cases z), ?_⟩
            · rw [List.length_map]
              have := PySem.sizeLine_eq
              omega
            · rw [upd_same, ← Nat.add_assoc, filt_one in_, List.map_append]
              rfl
          · rintro H3 ⟨n3, e3⟩
            refine ⟨n3, ?_⟩
            rw [e3]
            congr 3
            rw [show z.1 + ((z.2 : Int) - (z.1 : Int)).toNat = z.2 by omega]
            exact (filt_gap g1 g2).symm
      · rintro H2 ⟨n2, e2⟩
        rw [List.length_map, pr.len, upTo_end] at e2
        exact k p H2 (n1.trans n2) p0 e2
def spHow (K : PySem.W.Frag) (C tb : Addr) : Sp := fun vs H Q E => ∃ (x : V) (b : Bool), vs = [x] ∧ RunsB K H x b ∧ GxR.TabG H tb ∧
  (b = true → ∀ (v : V) (H' : Hp), Nw tb H H' → Q v H') ∧ (b = false → Rai C x tb H E)
theorem ok_how_many (D : Defs K mg) (T : Tx K mg) (hc : D.is_runs.fd.code = .ref c) (TB : GxR.TabB base mg c tb) : FnOk P w K mg base (CX P w) 10 D.how_many.f D.how_many.fd ["runs"] (spHow K D.erNoStretch.C tb) := by
  have Gnumbers_in := ok_numbers_in (P := P) (w := w) (base := base) D T hc TB
  refine D.how_many.F.okX schowmany (fun vs H Q E h => ?_) (fun cdv A outer s H vs Q E hr h => ?_)
  · obtain ⟨x, b, rfl, _⟩ := h
    rfl
  · obtain ⟨x, b, rfl, ru, tab, k, kr⟩ := h
    refine ⟨_, (pss_one (ps_ret (pe_callB call_len_seq (by rfl) T.b_len (by decide +kernel) (pa_cons (pcallX D.numbers_in Gnumbers_in (takes_of rfl rfl rfl rfl) hr (by decide) (by rfl) (pa_cons (pv 0) pa_nil)) pa_nil)))), ?_⟩
    exact ⟨_, rfl, x, b, rfl, ru, tab, fun hb r p H1 n1 _ e1 => ⟨p, _, rfl, .inl (SqL.of e1), k hb _ _ n1⟩, kr⟩
theorem flat_nums (ns : List Nat) : (ns.map fun n : Nat => V.int (n : Int)).all flatV = true := by
  rw [List.all_eq_true]
  intro x hx
  obtain ⟨n, _, rfl⟩ := List.mem_map.mp hx
  rfl
theorem inV_nums (i : Int) (ns : List Nat) : inV (.int i) (ns.map fun n : Nat => V.int (n : Int)) = decide (∃ n ∈ ns, (n : Int) = i) := by
  unfold inV
  rw [Bool.eq_iff_iff, List.any_eq_true, decide_eq_true_iff]
  constructor
  · rintro ⟨x, hx, e⟩
    obtain ⟨n, hn, rfl⟩ := List.mem_map.mp hx
    exact ⟨n, hn, by simpa [eqV] using e⟩
  · rintro ⟨n, hn, e⟩
    exact ⟨_, List.mem_map_of_mem hn, by simpa [eqV] using e⟩
def spHasNum (K : PySem.W.Frag) (C tb : Addr) : Sp := fun vs H Q E => ∃ (x y : V) (b : Bool), vs = [x, y] ∧ RunsB K H x b ∧ Thing K H y ∧ GxR.TabG H tb ∧
  (b = true → ∀ (v : V) (H' : Hp), Nw tb H H' → Q v H') ∧ (b = false → Rai C x tb H E)
theorem ok_has_number (D : Defs K mg) (T : Tx K mg) (hc : D.is_runs.fd.code = .ref c) (TB : GxR.TabB base mg c tb) : FnOk P w K mg base (CX P w) 10 D.has_number.f D.has_number.fd ["runs", "thing"] (spHasNum K D.erNoStretch.C tb) := by
  have Gnumbers_in := ok_numbers_in (P := P) (w := w) (base := base) D T hc TB
  have Gis_whole := ok_is_whole (P := P) (w := w) (base := base) D T
  refine D.has_number.F.okX schasnumber (fun vs H Q E h => ?_) (fun cdv A outer s H vs Q E hr h => ?_)
  · obtain ⟨x, y, b, rfl, _⟩ := h
    rfl
  · obtain ⟨x, y, b, rfl, ru, th, tab, k, kr⟩ := h
    refine ⟨_, (pss_cons (ps_set (i := 2) schasnumber.nd rfl (Or.inl rfl) (pcallX D.numbers_in Gnumbers_in (takes_of rfl rfl rfl rfl) hr (by decide) (by rfl) (pa_cons (pv 0) pa_nil)))
        (pss_one (ps_ret (pe_and (pcall D.is_whole Gis_whole hr (by decide) (by rfl) (pa_cons (pv 1) pa_nil)) (pe_one (pe_cmpR op_in_seq (pv 1) (pv 2) (by rfl))))))), ?_⟩
    refine ⟨_, rfl, x, b, rfl, ru, tab, fun hb r p H1 n1 _ e1 => ?_, kr⟩
    refine ⟨_, rfl, y, rfl, th.keep n1.keep, _, rfl, ?_⟩
    cases th with
    | int i => exact iteT ⟨_, rfl, _, rfl, p, _, rfl, .inl (SqL.of e1), rfl, flat_nums _, k hb _ _ n1⟩
    | _ => exact iteF (k hb _ _ n1)
end
end LL
namespace LL
/-! ### the tidy row of the numbers that a test lets through -/
def runStep (r : List Pr) (k : Nat) : List Pr :=
  match r.getLast? with
  | some z => if z.2 = k then r.dropLast ++ [(z.1, k + 1)] else r ++ [(k, k + 1)]
  | none => [(k, k + 1)]
def rowS (S : Nat → Bool) : Nat → List Pr
  | 0 => []
  | n + 1 => if S n = true then runStep (rowS S n) n else rowS S n
theorem runStep_nil (k : Nat) : runStep [] k = [(k, k + 1)] := rfl
theorem runStep_grow (q : List Pr) (x k : Nat) : runStep (q ++ [(x, k)]) k = q ++ [(x, k + 1)] := by
  unfold runStep
  rw [List.getLast?_append]
  simp
theorem runStep_app (q : List Pr) (z : Pr) (k : Nat) (h : z.2 ≠ k) : runStep (q ++ [z]) k = q ++ [z] ++ [(k, k + 1)] := by
  unfold runStep
  rw [List.getLast?_append]
  simp [h]
def areaR (r : List Pr) : Nat := (r.map fun z => z.2 - z.1).sum
theorem areaR_app (r q : List Pr) : areaR (r ++ q) = areaR r + areaR q := by simp [areaR]
theorem areaR_one (x y : Nat) : areaR [(x, y)] = y - x := by simp [areaR]
theorem tidy_last {r : List Pr} {z y : Pr} : ∀ {b : Nat}, TidyFrom b (r ++ [z]) → y ∈ r ++ [z] → y.2 ≤ z.2 := by
  induction r with
  | nil =>
    intro b h m
    have m : y ∈ [z] := m
    rw [List.mem_singleton.mp m]
    exact Nat.le_refl _
  | cons x r ih =>
    intro b h m
    obtain ⟨h1, h2, h3, h4⟩ := h
    have h4 : TidyFrom (x.2 + 1) (r ++ [z]) := h4
    rcases List.mem_cons.mp m with rfl | m
    · have hz : has (r ++ [z]) z.1 = true := by
        rw [has_app, has_one]
        have : z.1 < z.2 := (h4.valid z (List.mem_append_right _ (List.mem_singleton.mpr rfl))).1
        simp [this]
      have := (h4.low hz).1
      have : z.1 < z.2 := (h4.valid z (List.mem_append_right _ (List.mem_singleton.mpr rfl))).1
      omega
    · exact ih h4 m
theorem rowS_ok (S : Nat → Bool) : ∀ n, n ≤ 400 → Tidy (rowS S n) ∧ (∀ k, has (rowS S n) k = (decide (k < n) && S k)) ∧ (∀ z ∈ rowS S n, z.2 ≤ n) ∧ areaR (rowS S n) = ((List.range n).filter S).length := by
  intro n
  induction n with
  | zero => exact fun _ => ⟨trivial, fun k => by simp [rowS, has_nil], (fun z hz => nomatch hz), rfl⟩
  | succ n ih =>
    intro l
    obtain ⟨ti, ha, lo, ar⟩ := ih (by omega)
    cases q : S n with
    | false =>
      have e : rowS S (n + 1) = rowS S n := by simp [rowS, q]
      rw [e]
      refine ⟨ti, fun k => ?_, fun z hz => Nat.le_succ_of_le (lo z hz), ?_⟩
      · rw [ha]
        by_cases h : k = n
        · subst h
          simp [q]
        · rw [decide_eq_decide.mpr (show k < n ↔ k < n + 1 by omega)]
      · rw [ar, List.range_succ, List.filter_append]
        simp [q]
    | true =>
      have e : rowS S (n + 1) = runStep (rowS S n) n := by simp [rowS, q]
      rw [e]
      have fl : ((List.range (n + 1)).filter S).length = ((List.range n).filter S).length + 1 := by
        rw [List.range_succ, List.filter_append]
        simp [q]
      by_cases ne : rowS S n = []
      · rw [ne] at ha ar ⊢
        rw [runStep_nil]
        refine ⟨⟨Nat.zero_le _, Nat.lt_succ_self _, l, trivial⟩, fun k => ?_, fun z hz => ?_, ?_⟩
        · rw [has_one]
          have := ha k
          rw [has_nil] at this
          by_cases h : k = n
          · subst h
            simp [q]
          · by_cases h2 : k < n
            · have this : S k = false := by simpa [h2] using this.symm
              rw [this, Bool.and_false, decide_eq_false (show ¬ n ≤ k by omega), Bool.false_and]
            · rw [decide_eq_false (show ¬ k < n + 1 by omega), Bool.false_and, Bool.and_false]
        · rw [List.mem_singleton.mp hz]
          exact Nat.le_refl _
        · rw [areaR_one, fl, ← ar]
          simp [areaR]
      · obtain ⟨r, z, er⟩ := snoc_of ne
        rw [er] at ti ha lo ar ⊢
        by_cases h : z.2 = n
        · obtain ⟨x, y⟩ := z
          have h : y = n := h
          subst h
          rw [runStep_grow]
          have xy : x < y := (TidyFrom.valid (b := 0) ti (x, y) (List.mem_append_right _ (List.mem_singleton.mpr rfl))).1
          refine ⟨TidyFrom.grow ti l, fun k => ?_, fun w hw => ?_, ?_⟩
          · have := ha k
            rw [has_app, has_one] at this ⊢
            by_cases h : k = y
            · subst h
              simp [q, Nat.le_of_lt xy]
            · rw [decide_eq_decide.mpr (show k < y + 1 ↔ k < y by omega), this]
          · rcases List.mem_append.mp hw with hw | hw
            · have := lo w (List.mem_append_left _ hw)
              omega
            · rw [List.mem_singleton.mp hw]
              exact Nat.le_refl _
          · rw [fl, ← ar, areaR_app, areaR_app, areaR_one, areaR_one]
            omega
        · rw [runStep_app _ _ _ h]
          have zl := lo z (List.mem_append_right _ (List.mem_singleton.mpr rfl))
          refine ⟨Tidy.app ti (fun w hw => ?_) (Nat.lt_succ_self _) l, fun k => ?_, fun w hw => ?_, ?_⟩
          · have := tidy_last ti hw
            omega
          · rw [has_app, ha, has_one]
            by_cases h : k = n
            · subst h
              simp [q]
            · rw [decide_eq_decide.mpr (show k < n + 1 ↔ k < n by omega)]
              by_cases h2 : k < n
              · rw [decide_eq_false (show ¬ n ≤ k by omega), Bool.false_and, Bool.or_false]
              · rw [decide_eq_false h2, Bool.false_and, Bool.and_false]
                rfl
          · rcases List.mem_append.mp hw with hw | hw
            · exact Nat.le_succ_of_le (lo w hw)
            · rw [List.mem_singleton.mp hw]
              exact Nat.le_refl _
          · rw [fl, ← ar, areaR_app, areaR_one]
            omega
/-- the row by its numbers, one behind the other -/
theorem rowS_fold (S : Nat → Bool) (n : Nat) : ((List.range n).filter S).foldl runStep [] = rowS S n := by
  induction n with
  | zero => rfl
  | succ n ih =>
    rw [List.range_succ, List.filter_append, List.foldl_append, ih]
    cases q : S n <;> simp [q, rowS]
theorem rowS_congr {S R : Nat → Bool} {n : Nat} (h : ∀ k, k < n → S k = R k) : rowS S n = rowS R n := by
  induction n with
  | zero => rfl
  | succ n ih =>
    have := ih fun k l => h k (by omega)
    simp only [rowS, this, h n (Nat.lt_succ_self _)]
theorem rowS_none {S : Nat → Bool} {n : Nat} (h : ∀ k, k < n → S k = false) : rowS S n = [] := by
  rw [rowS_congr (R := fun _ => false) h]
  induction n with
  | zero => rfl
  | succ n ih =>
    simp only [rowS]
    exact ih fun k l => h k (by omega)
/-! ### strips: longest runs of days of one row -/
abbrev Strip := Nat × Nat × List Pr
def stripStep (ss : List Strip) (d : Nat) (row : List Pr) : List Strip :=
  match ss.getLast? with
  | some s => if s.2.2 = row then ss.dropLast ++ [(s.1, d + 1, row)] else ss ++ [(d, d + 1, row)]
  | none => [(d, d + 1, row)]
def stripsS (R : Nat → List Pr) : Nat → List Strip
  | 0 => []
  | d + 1 => stripStep (stripsS R d) d (R d)
/-- strips that follow one another from a day to another one -/
def Chn (R : Nat → List Pr) : Nat → List Strip → Nat → Prop
  | b, [], e => b = e
  | b, s :: ss, e => b = s.1 ∧ s.1 < s.2.1 ∧ (∀ d, s.1 ≤ d → d < s.2.1 → R d = s.2.2) ∧ (∀ t, ss.head? = some t → t.2.2 ≠ s.2.2) ∧ Chn R s.2.1 ss e
theorem Chn.le {R : Nat → List Pr} : ∀ {ss : List Strip} {b e : Nat}, Chn R b ss e → b ≤ e
  | [], _, _, h => Nat.le_of_eq h
  | s :: ss, b, e, ⟨h1, h2, _, _, h5⟩ => by
    have := h5.le
    omega
theorem stripStep_nil (d : Nat) (row : List Pr) : stripStep [] d row = [(d, d + 1, row)] := rfl
theorem stripStep_grow (q : List Strip) (x y d : Nat) (row : List Pr) : stripStep (q ++ [(x, y, row)]) d row = q ++ [(x, d + 1, row)] := by
  unfold stripStep
  rw [List.getLast?_append]
  simp
theorem stripStep_app (q : List Strip) (s : Strip) (d : Nat) (row : List Pr) (h : s.2.2 ≠ row) : stripStep (q ++ [s]) d row = q ++ [s] ++ [(d, d + 1, row)] := by
  unfold stripStep
  rw [List.getLast?_append]
  simp [h]
theorem Chn.grow {R : Nat → List Pr} : ∀ {ss : List Strip} {b x e : Nat} {row : List Pr}, Chn R b (ss ++ [(x, e, row)]) e → R e = row → Chn R b (ss ++ [(x, e + 1, row)]) (e + 1)
  | [], b, x, e, row, ⟨h1, h2, h3, h4, _⟩, q => by
    refine ⟨h1, Nat.lt_succ_of_lt h2, fun d l u => ?_, h4, rfl⟩
    by_cases z : d = e
    · rw [z]; exact q
    · exact h3 d l (by have u : d < e + 1 := u; show d < e; omega)
  | s :: ss, b, x, e, row, ⟨h1, h2, h3, h4, h5⟩, q => by
    refine ⟨h1, h2, h3, fun t ht => ?_, Chn.grow h5 q⟩
    cases ss with
    | nil =>
      obtain rfl : (x, e + 1, row) = t := Option.some.inj ht
      exact h4 (x, e, row) rfl
    | cons y ss => exact h4 t ht
theorem Chn.snoc {R : Nat → List Pr} : ∀ {ss : List Strip} {b e : Nat} {s : Strip} {row : List Pr}, Chn R b (ss ++ [s]) e → s.2.2 ≠ row → R e = row → Chn R b (ss ++ [s] ++ [(e, e + 1, row)]) (e + 1)
  | [], b, e, s, row, ⟨h1, h2, h3, h4, h5⟩, n, q => by
    have h5 : s.2.1 = e := h5
    refine ⟨h1, h2, h3, fun t ht => ?_, h5, Nat.lt_succ_self _, fun d l u => ?_, (fun t ht => nomatch ht), rfl⟩
    · obtain rfl : (e, e + 1, row) = t := Option.some.inj ht
      exact fun z => n z.symm
    · have : d = e := by have l : e ≤ d := l; have u : d < e + 1 := u; omega
      rw [this]
      exact q
  | y :: ss, b, e, s, row, ⟨h1, h2, h3, h4, h5⟩, n, q => by
    refine ⟨h1, h2, h3, fun t ht => ?_, Chn.snoc h5 n q⟩
    cases ss with
    | nil => exact h4 t ht
    | cons x ss => exact h4 t ht
theorem strips_ok (R : Nat → List Pr) : ∀ D, Chn R 0 (stripsS R D) D
  | 0 => rfl
  | D + 1 => by
    have ih := strips_ok R D
    show Chn R 0 (stripStep (stripsS R D) D (R D)) (D + 1)
    by_cases ne : stripsS R D = []
    · rw [ne] at ih ⊢
      have ih : 0 = D := ih
      subst ih
      exact ⟨rfl, Nat.lt_succ_self _, fun d l u => by have : d = 0 := by have u : d < 1 := u; omega
                                                      rw [this], (fun t ht => nomatch ht), rfl⟩
    · have e := (List.dropLast_concat_getLast ne).symm
      generalize (stripsS R D).dropLast = q at e
      generalize (stripsS R D).getLast ne = s at e
      rw [e] at ih ⊢
      have last : s.2.1 = D := by
        clear e ne
        revert ih
        generalize (0 : Nat) = b
        revert b
        induction q with
        | nil => exact fun b h => h.2.2.2.2
        | cons x q ih2 => exact fun b h => ih2 _ h.2.2.2.2
      obtain ⟨x, y, row⟩ := s
      have last : y = D := last
      subst last
      by_cases h : row = R y
      · subst h
        rw [stripStep_grow]
        exact Chn.grow ih rfl
      · rw [stripStep_app _ _ _ _ h]
        exact Chn.snoc ih h rfl

/-! ### boxes of points -/
abbrev BoxT (κ : Type) := κ × Nat × Nat × Nat × Nat
section
variable {κ : Type} [DecidableEq κ]
def boxesK (k : κ) (ss : List Strip) : List (BoxT κ) := ss.flatMap fun s => s.2.2.map fun z => (k, s.1, s.2.1, z.1, z.2)
/-- the tidy boxes of the points of keys that a test lets through -/
def tidyB (P : κ → Nat → Nat → Bool) (D T : Nat) (keys : List κ) : List (BoxT κ) := keys.flatMap fun k => boxesK k (stripsS (fun d => rowS (P k d) T) D)
/-- a box has a key and a day -/
def onDay (b : BoxT κ) (k : κ) (d : Int) : Bool := decide (b.1 = k) && (decide ((b.2.1 : Int) ≤ d) && decide (d < (b.2.2.1 : Int)))
def inBx (b : BoxT κ) (k : κ) (d t : Int) : Bool := onDay b k d && (decide ((b.2.2.2.1 : Int) ≤ t) && decide (t < (b.2.2.2.2 : Int)))
/-- the turns of a key and a day, in the order of the boxes -/
def turnsL (bs : List (BoxT κ)) (k : κ) (d : Int) : List Pr := (bs.filter fun b => onDay b k d).map fun b => (b.2.2.2.1, b.2.2.2.2)
theorem turnsL_app (as bs : List (BoxT κ)) (k : κ) (d : Int) : turnsL (as ++ bs) k d = turnsL as k d ++ turnsL bs k d := by simp [turnsL]
theorem turnsL_strip (k k2 : κ) (s : Strip) (d : Int) : turnsL (s.2.2.map fun z => (k, s.1, s.2.1, z.1, z.2)) k2 d =
    if k = k2 ∧ (s.1 : Int) ≤ d ∧ d < (s.2.1 : Int) then s.2.2 else [] := by
  obtain ⟨x, y, row⟩ := s
  show turnsL (row.map fun z => (k, x, y, z.1, z.2)) k2 d = if k = k2 ∧ (x : Int) ≤ d ∧ d < (y : Int) then row else []
  induction row with
  | nil => simp [turnsL]
  | cons z row ih =>
    rw [List.map_cons, ← List.singleton_append, turnsL_app, ih]
    by_cases h : k = k2 ∧ (x : Int) ≤ d ∧ d < (y : Int)
    · rw [if_pos h, if_pos h]
      simp [turnsL, onDay, h]
    · rw [if_neg h, if_neg h]
      have : onDay (k, x, y, z.1, z.2) k2 d = false := by
        cases q : onDay (k, x, y, z.1, z.2) k2 d with
        | false => rfl
        | true =>
          have q1 := Bool.and_eq_true_iff.mp q
          have q2 := Bool.and_eq_true_iff.mp q1.2
          exact absurd ⟨of_decide_eq_true q1.1, of_decide_eq_true q2.1, of_decide_eq_true q2.2⟩ h
      simp [turnsL, this]
theorem turnsL_out (k : κ) (R : Nat → List Pr) : ∀ (ss : List Strip) (b e : Nat) (d : Int), Chn R b ss e → (d < b ∨ (e : Int) ≤ d) → turnsL (boxesK k ss) k d = []
  | [], _, _, _, _, _ => rfl
  | s :: ss, b, e, d, ⟨h1, h2, h3, h4, h5⟩, o => by
    have e1 : boxesK k (s :: ss) = (s.2.2.map fun z => (k, s.1, s.2.1, z.1, z.2)) ++ boxesK k ss := rfl
    have l := h5.le
    rw [e1, turnsL_app, turnsL_strip, turnsL_out k R ss _ _ d h5 (by omega), if_neg (by omega)]
    rfl
theorem turnsL_in (k : κ) (R : Nat → List Pr) : ∀ (ss : List Strip) (b e d : Nat), Chn R b ss e → b ≤ d → d < e → turnsL (boxesK k ss) k (d : Int) = R d
  | [], b, e, d, h, l, u => by
    have h : b = e := h
    omega
  | s :: ss, b, e, d, ⟨h1, h2, h3, h4, h5⟩, l, u => by
    have e1 : boxesK k (s :: ss) = (s.2.2.map fun z => (k, s.1, s.2.1, z.1, z.2)) ++ boxesK k ss := rfl
    rw [e1, turnsL_app, turnsL_strip]
    by_cases h : d < s.2.1
    · rw [if_pos ⟨rfl, by omega, by omega⟩, turnsL_out k R ss _ _ _ h5 (by omega), List.append_nil, h3 d (by omega) h]
    · rw [if_neg (by omega), turnsL_in k R ss _ _ d h5 (by omega) u]
      rfl
theorem turnsL_key (k k2 : κ) (n : k ≠ k2) : ∀ (ss : List Strip) (d : Int), turnsL (boxesK k ss) k2 d = []
  | [], _ => rfl
  | s :: ss, d => by
    have e1 : boxesK k (s :: ss) = (s.2.2.map fun z => (k, s.1, s.2.1, z.1, z.2)) ++ boxesK k ss := rfl
    rw [e1, turnsL_app, turnsL_strip, if_neg (fun z => n z.1), turnsL_key k k2 n ss]
    rfl
theorem tidyB_strange (P : κ → Nat → Nat → Bool) (D T : Nat) : ∀ (keys : List κ) (k : κ) (d : Int), k ∉ keys → turnsL (tidyB P D T keys) k d = []
  | [], _, _, _ => rfl
  | y :: ks, k, d, h => by
    have e1 : tidyB P D T (y :: ks) = boxesK y (stripsS (fun d => rowS (P y d) T) D) ++ tidyB P D T ks := rfl
    rw [e1, turnsL_app, turnsL_key _ _ (fun z => h (by rw [z]; exact List.mem_cons_self)), tidyB_strange P D T ks k d (fun z => h (List.mem_cons_of_mem _ z))]
    rfl
theorem tidyB_turns (P : κ → Nat → Nat → Bool) (D T : Nat) : ∀ (keys : List κ) (k : κ) (d : Nat), keys.Nodup → k ∈ keys → d < D → turnsL (tidyB P D T keys) k (d : Int) = rowS (P k d) T
  | [], _, _, _, m, _ => nomatch m
  | y :: ks, k, d, nd, m, l => by
    have e1 : tidyB P D T (y :: ks) = boxesK y (stripsS (fun d => rowS (P y d) T) D) ++ tidyB P D T ks := rfl
    obtain ⟨n1, n2⟩ := List.nodup_cons.mp nd
    rw [e1, turnsL_app]
    by_cases h : y = k
    · subst h
      rw [turnsL_in y _ _ _ _ d (strips_ok _ D) (Nat.zero_le _) l, tidyB_strange P D T ks y _ n1, List.append_nil]
    · rw [turnsL_key _ _ h, List.nil_append]
      rcases List.mem_cons.mp m with z | m
      · exact absurd z.symm h
      · exact tidyB_turns P D T ks k d n2 m l
theorem tidyB_beyond (P : κ → Nat → Nat → Bool) (D T : Nat) : ∀ (keys : List κ) (k : κ) (d : Int), (d < 0 ∨ (D : Int) ≤ d) → turnsL (tidyB P D T keys) k d = []
  | [], _, _, _ => rfl
  | y :: ks, k, d, o => by
    have e1 : tidyB P D T (y :: ks) = boxesK y (stripsS (fun d => rowS (P y d) T) D) ++ tidyB P D T ks := rfl
    rw [e1, turnsL_app, tidyB_beyond P D T ks k d o]
    by_cases h : y = k
    · subst h
      rw [turnsL_out y _ _ _ _ d (strips_ok _ D) (by omega)]
      rfl
    · rw [turnsL_key _ _ h]
      rfl
/-- a box that has a point tells a turn of the key and the day -/
theorem anyBx_turns (bs : List (BoxT κ)) (k : κ) (d t : Int) : (bs.any fun b => inBx b k d t) = (turnsL bs k d).any fun z => decide ((z.1 : Int) ≤ t) && decide (t < (z.2 : Int)) := by
  induction bs with
  | nil => rfl
  | cons b bs ih =>
    rw [← List.singleton_append, turnsL_app, List.any_append, List.any_append, ih]
    congr 1
    cases q : onDay b k d <;> simp [turnsL, inBx, q]
theorem hasI (r : List Pr) (t : Int) : (r.any fun z => decide ((z.1 : Int) ≤ t) && decide (t < (z.2 : Int))) = (decide (0 ≤ t) && has r t.toNat) := by
  by_cases h : 0 ≤ t
  · obtain ⟨n, rfl⟩ := Int.eq_ofNat_of_zero_le h
    rw [decide_eq_true h, Bool.true_and]
    unfold has
    congr 1
    funext z
    rw [Int.toNat_natCast]
    congr 1
    · exact decide_eq_decide.mpr Int.ofNat_le
    · exact decide_eq_decide.mpr Int.ofNat_lt
  · rw [decide_eq_false h, Bool.false_and, List.any_eq_false]
    intro z _ q
    have q := of_decide_eq_true (Bool.and_eq_true_iff.mp q).1
    omega
/-- which points the boxes have -/
theorem tidyB_has (P : κ → Nat → Nat → Bool) {D T : Nat} (hT : T ≤ 400) {keys : List κ} (nd : keys.Nodup) (k : κ) (d t : Int) :
    ((tidyB P D T keys).any fun b => inBx b k d t) = (decide (k ∈ keys) && (decide (0 ≤ d ∧ d < (D : Int)) && (decide (0 ≤ t ∧ t < (T : Int)) && P k d.toNat t.toNat))) := by
  rw [anyBx_turns, hasI]
  by_cases m : k ∈ keys
  · rw [decide_eq_true m, Bool.true_and]
    by_cases l : 0 ≤ d ∧ d < (D : Int)
    · rw [decide_eq_true l, Bool.true_and]
      obtain ⟨n, rfl⟩ := Int.eq_ofNat_of_zero_le l.1
      rw [tidyB_turns P D T keys k n nd m (by have := l.2; omega), (rowS_ok _ T hT).2.1, Int.toNat_natCast, ← Bool.and_assoc]
      congr 1
      rw [Bool.eq_iff_iff]
      simp only [Bool.and_eq_true, decide_eq_true_eq]
      omega
    · rw [tidyB_beyond P D T keys k d (by omega), decide_eq_false l, has_nil, Bool.and_false, Bool.false_and]
  · rw [tidyB_strange P D T keys k d m, has_nil, decide_eq_false m, Bool.and_false, Bool.false_and]
/-! ### how many points -/
def areaB (bs : List (BoxT κ)) : Nat := (bs.map fun b => (b.2.2.1 - b.2.1) * (b.2.2.2.2 - b.2.2.2.1)).sum
theorem areaB_app (as bs : List (BoxT κ)) : areaB (as ++ bs) = areaB as + areaB bs := by simp [areaB]
theorem areaB_strip (k : κ) (s : Strip) : areaB (s.2.2.map fun z => (k, s.1, s.2.1, z.1, z.2)) = (s.2.1 - s.1) * areaR s.2.2 := by
  obtain ⟨x, y, row⟩ := s
  show areaB (row.map fun z => (k, x, y, z.1, z.2)) = (y - x) * areaR row
  induction row with
  | nil => rfl
  | cons z row ih =>
    rw [List.map_cons, ← List.singleton_append, areaB_app, ih]
    simp [areaB, areaR, Nat.mul_add]
/-- the sum over the days from b on, n of them -/
def sumFrom (f : Nat → Nat) (b : Nat) : Nat → Nat
  | 0 => 0
  | n + 1 => f b + sumFrom f (b + 1) n
theorem sumFrom_app (f : Nat → Nat) : ∀ (n b m : Nat), sumFrom f b (n + m) = sumFrom f b n + sumFrom f (b + n) m
  | 0, b, m => by simp [sumFrom]
  | n + 1, b, m => by
    rw [Nat.succ_add]
    show f b + sumFrom f (b + 1) (n + m) = f b + sumFrom f (b + 1) n + sumFrom f (b + (n + 1)) m
    rw [sumFrom_app f n (b + 1) m, show b + 1 + n = b + (n + 1) by omega]
    omega
theorem sumFrom_const (f : Nat → Nat) (c : Nat) : ∀ (n b : Nat), (∀ d, b ≤ d → d < b + n → f d = c) → sumFrom f b n = n * c
  | 0, b, _ => by simp [sumFrom]
  | n + 1, b, h => by
    show f b + sumFrom f (b + 1) n = (n + 1) * c
    rw [h b (Nat.le_refl _) (by omega), sumFrom_const f c n (b + 1) (fun d l u => h d (by omega) (by omega)), Nat.succ_mul]
    omega
theorem areaB_chain (k : κ) (R : Nat → List Pr) : ∀ (ss : List Strip) (b e : Nat), Chn R b ss e → areaB (boxesK k ss) = sumFrom (fun d => areaR (R d)) b (e - b)
  | [], b, e, h => by
    have h : b = e := h
    subst h
    rw [Nat.sub_self]
    rfl
  | s :: ss, b, e, ⟨h1, h2, h3, h4, h5⟩ => by
    have e1 : boxesK k (s :: ss) = (s.2.2.map fun z => (k, s.1, s.2.1, z.1, z.2)) ++ boxesK k ss := rfl
    have l := h5.le
    rw [e1, areaB_app, areaB_strip, areaB_chain k R ss _ _ h5, show e - b = (s.2.1 - s.1) + (e - s.2.1) by omega, sumFrom_app, show b + (s.2.1 - s.1) = s.2.1 by omega]
    congr 1
    refine (sumFrom_const _ (areaR s.2.2) _ _ (fun d l u => ?_)).symm
    show areaR (R d) = _
    rw [h3 d (by omega) (by omega)]
/-- the points of keys, one by one -/
def ptsOf (P : κ → Nat → Nat → Bool) (D T : Nat) (keys : List κ) : List (κ × Nat × Nat) :=
  keys.flatMap fun k => (List.range' 0 D).flatMap fun d => ((List.range T).filter (P k d)).map fun t => (k, d, t)
theorem len_days (P : κ → Nat → Nat → Bool) (T : Nat) (hT : T ≤ 400) (k : κ) : ∀ (n b : Nat), ((List.range' b n).flatMap fun d => ((List.range T).filter (P k d)).map fun t => (k, d, t)).length = sumFrom (fun d => areaR (rowS (P k d) T)) b n
  | 0, b => rfl
  | n + 1, b => by
    rw [List.range'_succ, List.flatMap_cons, List.length_append, len_days P T hT k n (b + 1), List.length_map, ← (rowS_ok (P k b) T hT).2.2.2]
    rfl
theorem areaB_pts (P : κ → Nat → Nat → Bool) {D T : Nat} (hT : T ≤ 400) : ∀ keys : List κ, areaB (tidyB P D T keys) = (ptsOf P D T keys).length
  | [] => rfl
  | k :: ks => by
    have e1 : tidyB P D T (k :: ks) = boxesK k (stripsS (fun d => rowS (P k d) T) D) ++ tidyB P D T ks := rfl
    have e2 : ptsOf P D T (k :: ks) = ((List.range' 0 D).flatMap fun d => ((List.range T).filter (P k d)).map fun t => (k, d, t)) ++ ptsOf P D T ks := rfl
    rw [e1, e2, areaB_app, List.length_append, areaB_pts P hT ks, len_days P T hT, areaB_chain k _ _ _ _ (strips_ok _ D), Nat.sub_zero]
theorem mem_pts (P : κ → Nat → Nat → Bool) (D T : Nat) (keys : List κ) (k : κ) (d t : Nat) : (k, d, t) ∈ ptsOf P D T keys ↔ k ∈ keys ∧ d < D ∧ t < T ∧ P k d t = true := by
  simp only [ptsOf, List.mem_flatMap, List.mem_map, List.mem_filter, List.mem_range, List.mem_range'_1, Prod.mk.injEq]
  constructor
  · rintro ⟨k', hk, d', hd, t', ⟨ht, p⟩, rfl, rfl, rfl⟩
    exact ⟨hk, by omega, ht, p⟩
  · rintro ⟨hk, hd, ht, p⟩
    exact ⟨k, hk, d, by omega, t, ⟨ht, p⟩, rfl, rfl, rfl⟩
theorem nodup_days (P : κ → Nat → Nat → Bool) (T : Nat) (k : κ) : ∀ (n b : Nat), ((List.range' b n).flatMap fun d => ((List.range T).filter (P k d)).map fun t => (k, d, t)).Nodup
  | 0, b => List.nodup_nil
  | n + 1, b => by
    rw [List.range'_succ, List.flatMap_cons, List.nodup_append]
    refine ⟨?_, nodup_days P T k n (b + 1), ?_⟩
    · have : ((List.range T).filter (P k b)).Nodup := List.Pairwise.filter _ List.nodup_range
      refine List.Pairwise.map _ (fun x y h => ?_) this
      intro z
      exact h (Prod.mk.inj (Prod.mk.inj z).2).2
    · intro x hx y hy z
      subst z
      obtain ⟨t, _, rfl⟩ := List.mem_map.mp hx
      obtain ⟨d', hd, hy⟩ := List.mem_flatMap.mp hy
      obtain ⟨t', _, e⟩ := List.mem_map.mp hy
      have e1 : d' = b := (Prod.mk.inj (Prod.mk.inj e).2).1
      have := (List.mem_range'_1.mp hd).1
      omega
theorem nodup_pts (P : κ → Nat → Nat → Bool) (D T : Nat) : ∀ keys : List κ, keys.Nodup → (ptsOf P D T keys).Nodup
  | [], _ => List.nodup_nil
  | k :: ks, nd => by
    have e2 : ptsOf P D T (k :: ks) = ((List.range' 0 D).flatMap fun d => ((List.range T).filter (P k d)).map fun t => (k, d, t)) ++ ptsOf P D T ks := rfl
    obtain ⟨n1, n2⟩ := List.nodup_cons.mp nd
    rw [e2, List.nodup_append]
    refine ⟨nodup_days P T k D 0, nodup_pts P D T ks n2, fun x hx y hy z => ?_⟩
    subst z
    obtain ⟨d, _, hx⟩ := List.mem_flatMap.mp hx
    obtain ⟨t, _, rfl⟩ := List.mem_map.mp hx
    exact n1 ((mem_pts P D T ks k d t).mp hy).1
omit [DecidableEq κ] in
theorem len_le {α : Type} [BEq α] [LawfulBEq α] : ∀ {l m : List α}, l.Nodup → (∀ x ∈ l, x ∈ m) → l.length ≤ m.length
  | [], _, _, _ => Nat.zero_le _
  | x :: l, m, nd, h => by
    obtain ⟨n1, n2⟩ := List.nodup_cons.mp nd
    have hx := h x List.mem_cons_self
    have := len_le (m := m.erase x) n2 fun y hy => (List.mem_erase_of_ne (fun z => n1 (by rw [← z]; exact hy))).mpr (h y (List.mem_cons_of_mem _ hy))
    rw [List.length_erase_of_mem hx] at this
    have : 0 < m.length := List.length_pos_of_mem hx
    rw [List.length_cons]
    omega
omit [DecidableEq κ] in
theorem len_eq {α : Type} [BEq α] [LawfulBEq α] {l m : List α} (n1 : l.Nodup) (n2 : m.Nodup) (h : ∀ x, x ∈ l ↔ x ∈ m) : l.length = m.length :=
  Nat.le_antisymm (len_le n1 fun x hx => (h x).mp hx) (len_le n2 fun x hx => (h x).mpr hx)
end
/-! ### how long, and what boxes are there -/
theorem strips_len (R : Nat → List Pr) : ∀ n, (stripsS R n).length ≤ n
  | 0 => Nat.le_refl _
  | n + 1 => by
    have ih := strips_len R n
    show (stripStep (stripsS R n) n (R n)).length ≤ n + 1
    unfold stripStep
    split
    · split
      · rw [List.length_append, List.length_dropLast]
        simp
        omega
      · rw [List.length_append]
        exact Nat.succ_le_succ ih
    · simp
theorem Chn.mem {R : Nat → List Pr} : ∀ {ss : List Strip} {b e : Nat}, Chn R b ss e → ∀ z ∈ ss, b ≤ z.1 ∧ z.1 < z.2.1 ∧ z.2.1 ≤ e ∧ R z.1 = z.2.2
  | [], _, _, _, _, hz => nomatch hz
  | y :: ss, b, e, ⟨c1, c2, c3, c4, c5⟩, z, hz => by
    rcases List.mem_cons.mp hz with rfl | hz
    · exact ⟨Nat.le_of_eq c1, c2, c5.le, c3 _ (Nat.le_refl _) c2⟩
    · have := Chn.mem c5 z hz
      exact ⟨by omega, this.2.1, this.2.2.1, this.2.2.2⟩
theorem boxesK_len {κ : Type} (k : κ) (c : Nat) : ∀ ss : List Strip, (∀ z ∈ ss, z.2.2.length ≤ c) → (boxesK k ss).length ≤ ss.length * c
  | [], _ => Nat.zero_le _
  | z :: ss, h => by
    have e : boxesK k (z :: ss) = (z.2.2.map fun y => (k, z.1, z.2.1, y.1, y.2)) ++ boxesK k ss := rfl
    have h1 := boxesK_len k c ss fun y hy => h y (List.mem_cons_of_mem _ hy)
    have h2 := h z List.mem_cons_self
    rw [e, List.length_append, List.length_map, List.length_cons, Nat.succ_mul]
    omega
theorem strips_rows {S : Nat → Nat → Bool} {D T : Nat} (hT : T ≤ 400) : ∀ z ∈ stripsS (fun d => rowS (S d) T) D, z.2.2.length ≤ 201 := fun z hz => by
  have h := (Chn.mem (strips_ok _ D) z hz).2.2.2
  rw [← h]
  exact Tidy.len (rowS_ok _ T hT).1
theorem tidyB_len {κ : Type} (P : κ → Nat → Nat → Bool) {D T : Nat} (hT : T ≤ 400) : ∀ keys : List κ, (tidyB P D T keys).length ≤ keys.length * (D * 201)
  | [] => Nat.zero_le _
  | k :: ks => by
    have e : tidyB P D T (k :: ks) = boxesK k (stripsS (fun d => rowS (P k d) T) D) ++ tidyB P D T ks := rfl
    have h1 := tidyB_len P hT ks (D := D)
    have h2 := boxesK_len k 201 _ (strips_rows (S := P k) (D := D) hT)
    have h3 := Nat.mul_le_mul_right 201 (strips_len (fun d => rowS (P k d) T) D)
    rw [e, List.length_append, List.length_cons, Nat.succ_mul]
    omega
theorem tidyB_mem {κ : Type} (P : κ → Nat → Nat → Bool) {D T : Nat} (hT : T ≤ 400) {keys : List κ} : ∀ b ∈ tidyB P D T keys, b.1 ∈ keys ∧ b.2.1 < b.2.2.1 ∧ b.2.2.1 ≤ D ∧ b.2.2.2.1 < b.2.2.2.2 ∧ b.2.2.2.2 ≤ T := fun b hb => by
  obtain ⟨k, hk, hb⟩ := List.mem_flatMap.mp hb
  obtain ⟨s, hs, hb⟩ := List.mem_flatMap.mp hb
  obtain ⟨z, hz, rfl⟩ := List.mem_map.mp hb
  obtain ⟨h1, h2, h3, h4⟩ := Chn.mem (strips_ok _ D) s hs
  have h5 := rowS_ok (P k s.1) T hT
  rw [show rowS (P k s.1) T = s.2.2 from h4] at h5
  exact ⟨hk, h2, h3, (TidyFrom.valid (b := 0) h5.1 z hz).1, h5.2.2.1 z hz⟩
end LL
namespace LL
open PySem PySem.Spec PyProof.Rows L2
/-! ### len(set(xs)), xs a list or a tuple of unlike texts -/
def upTill (xs : List Str) (i : Nat) : Str → Bool := fun k => (xs.take i).any fun x => x == k
theorem upTill_step {xs : List Str} {i : Nat} {x : Str} (e : xs[i]? = some x) (k : Str) : (upTill xs i k || decide (k = x)) = upTill xs (i + 1) k := by
  unfold upTill
  rw [List.take_add_one, e, List.any_append]
  congr 1
  by_cases q : k = x
  · rw [q]; simp
  · have q' : (x == k) = false := beq_eq_false_iff_ne.mpr fun z => q z.symm
    simp [q, q']
theorem upTill_no {xs : List Str} {i : Nat} {x : Str} (nd : xs.Nodup) (e : xs[i]? = some x) : upTill xs i x = false := by
  obtain ⟨hi, rfl⟩ := List.getElem?_eq_some_iff.mp e
  cases q : upTill xs i xs[i] with
  | false => rfl
  | true =>
    obtain ⟨y, hy, ey⟩ := List.any_eq_true.mp q
    obtain ⟨j, hj⟩ := List.mem_iff_getElem?.mp (eq_of_beq ey ▸ hy)
    rw [List.getElem?_take] at hj
    by_cases l : j < i
    · rw [if_pos l] at hj
      obtain ⟨hj', ej⟩ := List.getElem?_eq_some_iff.mp hj
      exact absurd ej (List.pairwise_iff_getElem.mp nd j i hj' hi l)
    · rw [if_neg l] at hj
      cases hj
section
variable {prog : Program} {w : World} {A : Around}
abbrev SetAt (prog : Program) (w : World) (h : Heap) (S : Addr) (xs : List Str) (i : Nat) : Prop := h.SetOf (PySem.strKind prog w) S (upTill xs i) i
theorem SetAt.move {h h' : Heap} {S : Addr} {xs : List Str} {i : Nat} (x : SetAt prog w h S xs i) (k : ∀ o, h.get? S = some o → h'.get? S = some o) : SetAt prog w h' S xs i := by
  obtain ⟨o, es, ep, t, ho, r⟩ := x
  exact ⟨o, es, ep, t, k o ho, r⟩
/-- one text more -/
theorem set_more {xs : List Str} {S : Addr} {i : Nat} {x : Str} {t : Tok} {s : Shared} {E : Value → Shared → Prop} {Q : Bool → Shared → Prop} (nd : xs.Nodup) (few : xs.length + 1 < scanBound) (e : xs[i]? = some x) (st : SetAt prog w s.heap S xs i)
    (q : ∀ b h' tk, s.toks ≤ tk → Heap.SameBut S s.heap h' → SetAt prog w h' S xs (i + 1) → Q b { s with heap := h', toks := tk }) :
    wpAny (model prog w) A (setAdd S (.str x t)) Q E s := by
  have hi := (List.getElem?_eq_some_iff.mp e).1
  unfold setAdd
  refine wpAny_holding (wpAny_bind ((PySem.strKind prog w).pyHash (k := x) (strKind_is _ _ _ _) ?_))
  refine wpAny_setAddHashed_of (knd := PySem.strKind prog w) (s := { s with toks := s.toks + 1 }) (strKind_is _ _ _ _) rfl st (by omega) fun h' sb so => q _ h' _ (Nat.le_succ _) sb ?_
  exact SetOf_congr so (upTill_step e) (show (if upTill xs i x = true then i else i + 1) = i + 1 by rw [upTill_no nd e]; rfl)
/-- all of them, one by one -/
theorem set_all {R : Result → Shared → Prop} {I S : Addr} {fp wr : List Addr} {G : Array GenState → Array GenState → Prop} {n : Nat} {Pw : Nat → Value → Prop} {St : Nat → Shared → Prop} (W : WalksS prog w A.in1 I fp wr G n Pw St) (out : S ∉ fp) {xs : List Str} (nd : xs.Nodup) (ln : xs.length = n) (few : n + 1 < scanBound)
    (are : ∀ i v, Pw i v → ∃ x t, xs[i]? = some x ∧ v = .str x t) : ∀ (d i : Nat) (s : Shared), n - i = d → i ≤ n → St i s → SetAt prog w s.heap S xs i → (∀ s', Moved (S :: wr) G s s' → SetAt prog w s'.heap S xs n → R (.ok (.ret .none)) s') →
      codeAny (model prog w) A (.builtin "set.update.loop" ⟨[.ref S, .ref I], []⟩) R s := by
  have nw : S ∉ wr := fun z => out (W.sub _ z)
  intro d
  induction d with
  | zero =>
    intro i s e le st sa fin
    obtain rfl : i = n := by omega
    refine codeAny_builtin PyProof.Rows.F.entry_set_update_loop ?_
    rw [Around.under_plainId PyProof.Rows.F.plain_set_update_loop _]; show wpAny _ A.in1 (pyNext (.ref I) >>= _) _ _ s
    exact wpAny_bind (W.done s _ _ st fun s' m => (show wpAny _ A.in1 (ret Value.none) _ _ s' from wpAny_pure (fin s' (m.mono fun b hb => List.mem_cons_of_mem _ hb) (sa.move fun o ho => m.heap S o nw ho))))
  | succ d ih =>
    intro i s e le st sa fin
    have lt : i < n := by omega
    refine codeAny_builtin PyProof.Rows.F.entry_set_update_loop ?_
    rw [Around.under_plainId PyProof.Rows.F.plain_set_update_loop _]; show wpAny _ A.in1 (pyNext (.ref I) >>= _) _ _ s
    refine wpAny_bind (W.item i s _ _ lt st fun v s' pv st' m => ?_)
    obtain ⟨x, t, hx, rfl⟩ := are i v pv
    show wpAny _ A.in1 (holding [Value.str x t] (setAdd S (.str x t)) >>= _) _ _ s'
    refine wpAny_bind (wpAny_holding (set_more nd (by omega) hx (sa.move fun o ho => m.heap S o nw ho) fun b h' tk le2 sb sa' => ?_))
    have keep : ∀ b o, b ≠ S → s'.heap.get? b = some o → h'.get? b = some o := fun b o nb ho => by rw [sb.2 b nb]; exact ho
    refine wpAny_pure ⟨plainId_quiet PyProof.Rows.F.plain_set_update_loop _, ih (i + 1) _ (by omega) lt (W.frame _ s' _ _ st' le2 fun b hb o ho => keep b o (fun z => out (z ▸ hb)) ho) sa' fun s2 m2 sa2 => ?_⟩
    exact fin s2 (Moved.trans W.gtrans ((m.mono fun b hb => List.mem_cons_of_mem _ hb).then_heap le2 fun b o hb ho => keep b o (fun z => hb (z ▸ List.mem_cons_self)) ho) m2) sa2
/-- a list or a tuple -/
abbrev IsA (tp : Bool) (h : Heap) (l : Addr) (items : Array Value) : Prop := if tp = true then h.IsTuple l items else h.IsList l items
theorem strs_get {us : List Value} {xs : List Str} (h : StrsAre us xs) {i : Nat} {v : Value} (e : us[i]? = some v) : ∃ x t, xs[i]? = some x ∧ v = .str x t := by
  induction h generalizing i with
  | nil => cases e
  | cons x t _ ih =>
    cases i with
    | zero => exact ⟨x, t, rfl, (Option.some.inj e).symm⟩
    | succ i => exact ih e
theorem set_init (tp : Bool) {s : Shared} {E : Value → Shared → Prop} {l : Addr} {items : Array Value} {xs : List Str} (hd : A.handled = none) (src : IsA tp s.heap l items) (are : StrsAre items.toList xs) (nd : xs.Nodup) (few : xs.length + 1 < scanBound)
    {led : Bool} {ne : Obj} (hN : ({ cls := .type "set", dict := none, data := .set #[] 0 (.fresh 0 0 led) } : Obj) = ne) :
    wpAny (model prog w) A.in1.in1 (Builtin.«set.__init__» ⟨[.ref s.heap.objs.size, .ref l], []⟩)
      (fun z s' => match z with
        | .done f => wants (fun r s2 => r = .none ∧ ∃ h' tk, s2 = { s with heap := h', toks := tk } ∧ SetAt prog w h' s.heap.objs.size xs xs.length ∧ ∀ b o, s.heap.get? b = some o → h'.get? b = some o) E (.ok f) s'
        | .again c' => c'.quiet = true ∧ codeAny (model prog w) A.in1 c' (wants (fun r s2 => r = .none ∧ ∃ h' tk, s2 = { s with heap := h', toks := tk } ∧ SetAt prog w h' s.heap.objs.size xs xs.length ∧ ∀ b o, s.heap.get? b = some o → h'.get? b = some o) E) s')
      (fun e s' => wants (fun r s2 => r = .none ∧ ∃ h' tk, s2 = { s with heap := h', toks := tk } ∧ SetAt prog w h' s.heap.objs.size xs xs.length ∧ ∀ b o, s.heap.get? b = some o → h'.get? b = some o) E (.error e) s') { s with heap := s.heap.push ne } := by
  have ln : xs.length = items.size := by rw [← StrsAre.len_eq are, Array.length_toList]
  subst hN
  cases tp with
  | false =>
    obtain ⟨⟨oc, od, odt, os⟩, ho, hc, m, hm⟩ := id src
    simp only at hc hm
    subst hc hm
    have ho' := Heap.get?_push_of_some { cls := .type "set", dict := none, data := .set #[] 0 (.fresh 0 0 led) } ho
    have src' : (s.heap.push { cls := .type "set", dict := none, data := .set #[] 0 (.fresh 0 0 led) }).IsList l items := ⟨_, ho', rfl, m, rfl⟩
    have e1 := PySem.F.sub_list_set; have e2 := PySem.F.sub_list_frozenset; have e3 : (Value.type "list" == Value.type "dict") = false := by decide
    unfold Builtin.«set.__init__» noKeywords Builtin.Frozenset.updateFrom; generalize hPI : pyIter = PI
    wp_walk; subst hPI
    refine wpAny_pyIter_list src' (wpAny_bind (wpAny_runValue ?_))
    have lS : l < s.heap.objs.size := Heap.lt_size ho
    have sz : (s.heap.push { cls := .type "set", dict := none, data := .set #[] 0 (.fresh 0 0 led) }).objs.size = s.heap.objs.size + 1 := Heap.size_push ..
    have hd3 : A.in1.in1.in1.handled = none := by simp [hd]
    refine set_all ((Walks.list hd3 _ l (by rw [sz]; exact Nat.ne_of_lt (Nat.lt_succ_of_lt lS)) items).toS) (by rw [sz]; simp only [List.mem_cons, List.not_mem_nil, or_false, not_or]; exact ⟨Nat.ne_of_lt (Nat.lt_succ_self _), Nat.ne_of_gt lS⟩) nd ln (by omega) (fun i v hv => strs_get are (by rw [Array.getElem?_toList]; exact hv)) (items.size - 0) 0 _ rfl (Nat.zero_le _)
      ⟨⟨_, Heap.get?_push_size _ rfl, rfl, rfl⟩, src'.push _⟩ (SetOf_congr ((setObjOf_fresh (knd := PySem.strKind prog w) led).setOf (Heap.get?_push_of_some _ (Heap.get?_push_size _ rfl)) (by unfold scanBound; omega)) (fun _ => rfl) rfl) fun s' mv sa => ?_
    obtain ⟨h', g', d', tk', o'⟩ := s'
    obtain rfl : g' = s.gens := mv.gens
    obtain rfl : d' = s.drawn := mv.drawn
    obtain rfl : o' = s.os := mv.os
    refine wpAny_pure (show wpAny _ _ (ret Value.none) _ _ _ from wpAny_pure ⟨rfl, h', tk', rfl, by rw [ln]; exact sa, fun b o hb => ?_⟩)
    have lb := Heap.lt_size hb
    exact mv.heap b o (by rw [sz]; simp only [List.mem_cons, List.not_mem_nil, or_false, not_or]; exact ⟨Nat.ne_of_lt lb, Nat.ne_of_lt (Nat.lt_succ_of_lt lb)⟩) (Heap.get?_push_of_some _ (Heap.get?_push_of_some _ hb))
  | true =>
    obtain ⟨⟨oc, od, odt, os⟩, ho, hc, m, hm⟩ := id src
    simp only at hc hm
    subst hc hm
    have ho' := Heap.get?_push_of_some { cls := .type "set", dict := none, data := .set #[] 0 (.fresh 0 0 led) } ho
    have src' : (s.heap.push { cls := .type "set", dict := none, data := .set #[] 0 (.fresh 0 0 led) }).IsTuple l items := ⟨_, ho', rfl, m, rfl⟩
    have e1 := PySem.F.sub_tuple_set; have e2 := PySem.F.sub_tuple_frozenset; have e3 : (Value.type "tuple" == Value.type "dict") = false := by decide
    unfold Builtin.«set.__init__» noKeywords Builtin.Frozenset.updateFrom; generalize hPI : pyIter = PI
    wp_walk; subst hPI
    refine wpAny_pyIter_tuple src' (wpAny_bind (wpAny_runValue ?_))
    have lS : l < s.heap.objs.size := Heap.lt_size ho
    have sz : (s.heap.push { cls := .type "set", dict := none, data := .set #[] 0 (.fresh 0 0 led) }).objs.size = s.heap.objs.size + 1 := Heap.size_push ..
    have hd3 : A.in1.in1.in1.handled = none := by simp [hd]
    refine set_all ((Walks.tuple hd3 _ l (by rw [sz]; exact Nat.ne_of_lt (Nat.lt_succ_of_lt lS)) items).toS) (by rw [sz]; simp only [List.mem_cons, List.not_mem_nil, or_false, not_or]; exact ⟨Nat.ne_of_lt (Nat.lt_succ_self _), Nat.ne_of_gt lS⟩) nd ln (by omega) (fun i v hv => strs_get are (by rw [Array.getElem?_toList]; exact hv)) (items.size - 0) 0 _ rfl (Nat.zero_le _)
      ⟨⟨_, Heap.get?_push_size _ rfl, rfl, rfl⟩, src'.push _⟩ (SetOf_congr ((setObjOf_fresh (knd := PySem.strKind prog w) led).setOf (Heap.get?_push_of_some _ (Heap.get?_push_size _ rfl)) (by unfold scanBound; omega)) (fun _ => rfl) rfl) fun s' mv sa => ?_
    obtain ⟨h', g', d', tk', o'⟩ := s'
    obtain rfl : g' = s.gens := mv.gens
    obtain rfl : d' = s.drawn := mv.drawn
    obtain rfl : o' = s.os := mv.os
    refine wpAny_pure (show wpAny _ _ (ret Value.none) _ _ _ from wpAny_pure ⟨rfl, h', tk', rfl, by rw [ln]; exact sa, fun b o hb => ?_⟩)
    have lb := Heap.lt_size hb
    exact mv.heap b o (by rw [sz]; simp only [List.mem_cons, List.not_mem_nil, or_false, not_or]; exact ⟨Nat.ne_of_lt lb, Nat.ne_of_lt (Nat.lt_succ_of_lt lb)⟩) (Heap.get?_push_of_some _ (Heap.get?_push_of_some _ hb))
theorem call_set_texts (tp : Bool) {s : Shared} {E : Value → Shared → Prop} {l : Addr} {items : Array Value} {xs : List Str} {Q : Value → Shared → Prop} (hd : A.handled = none) (src : IsA tp s.heap l items) (are : StrsAre items.toList xs) (nd : xs.Nodup) (few : xs.length + 1 < scanBound)
    (q : ∀ (h' : Heap) (tk : Nat), SetAt prog w h' s.heap.objs.size xs xs.length → (∀ b o, s.heap.get? b = some o → h'.get? b = some o) → Q (.ref s.heap.objs.size) { s with heap := h', toks := tk }) :
    wpAny (model prog w) A (call (.type "set") [.ref l]) Q E s := by
  obtain ⟨c, tl, hmro⟩ := PySem.F.called_set.mro
  have k1 := PySem.F.called_set.made; have k2 := PySem.F.called_set.sub; have k3 := PySem.F.called_set.notType; have k4 := PySem.F.called_set.canCreate
  have k5 := PySem.F.typeCall_set_1 (.ref l)
  refine wpAny_call (codeAny_of_tree (show wpAny _ _ (callAny (.type "set") _) _ _ _ from ?_))
  refine wpAny_pure ⟨Code.quiet_builtin _ (by decide +kernel), codeAny_builtin PySem.F.entry_type_call ?_⟩
  rw [Around.under_plain (weight_type_call_type "set" [.ref l] []) rfl]; repeat (any_goals (first | assumption | wp_step))
  refine codeAny_mono (code_set_new_1 (.ref l) (E := E) (Q₁ := fun ob s1 => ∃ led : Bool, ob = .ref s.heap.objs.size ∧ s1 = { s with heap := s.heap.push { cls := .type "set", dict := none, data := .set #[] 0 (.fresh 0 0 led) } }) fun led => ⟨led, rfl, rfl⟩) fun r s1 hr => ?_
  rcases r with e | fl
  · exact hr
  cases fl with
  | ret ob =>
    obtain ⟨led, rfl, rfl⟩ := hr
    generalize hN : ({ cls := .type "set", dict := none, data := .set #[] 0 (.fresh 0 0 led) } : Obj) = ne
    have eN : (s.heap.push ne).get? s.heap.objs.size = some ne := Heap.get?_push_size _ (by subst hN; rfl)
    have tN : Shared.TypeIs { s with heap := s.heap.push ne } (.ref s.heap.objs.size) "set" := ⟨_, eN, by subst hN; rfl⟩
    have k6 := PySem.F.called_set.init.lookup; have k7 := PySem.F.called_set.init.bind (.ref s.heap.objs.size)
    repeat (any_goals (first | assumption | wp_step))
    refine codeAny_mono (codeAny_call_builtin (R := wants (fun r s2 => r = .none ∧ ∃ h' tk, s2 = { s with heap := h', toks := tk } ∧ SetAt prog w h' s.heap.objs.size xs xs.length ∧ ∀ b o, s.heap.get? b = some o → h'.get? b = some o) E) PySem.F.called_set.init.plain PySem.F.entry_set_init (check_set_init_1 tN ?_)) fun r2 s2 hr2 => ?_
    · exact set_init tp hd src are nd few hN
    · rcases r2 with e | f2
      · exact hr2
      cases f2 with
      | ret r =>
        obtain ⟨rfl, h', tk, rfl, sa, keep⟩ := hr2
        repeat (any_goals (first | assumption | wp_step))
        exact q h' tk sa keep
      | _ => exact hr2.elim
  | _ => exact hr.elim
end
section
variable {X : Cx}
/-- len(set(xs)) of unlike texts -/
def tLenTxt (K : PySem.W.Frag) (ta : TE) : TE := fun σ H Q => ta σ H fun x H1 => ∃ (l : Addr) (xs : List Str), x = .ref l ∧ (SqL K H1 l (xs.map V.str) ∨ SqT K H1 l (xs.map V.str)) ∧ xs.Nodup ∧ xs.length ≤ 1000 ∧ Q (.int xs.length) H1
theorem strs_vals : ∀ {ys : List Str} {us : List Value}, Vals (ys.map V.str) us → StrsAre us ys
  | [], _, .nil => .nil
  | y :: ys, _, .cons ⟨k, e⟩ t => e ▸ .cons y k (strs_vals t)
theorem pe_lenTxt {a : Expr} {ta : TE} {p p2 q pos : Pos} (hc : X.calm = true) (g1 : Gl X "len") (m1 : X.mg "len" = none) (g2 : Gl X "set") (m2 : X.mg "set" = none) (ha : PE X a ta)
    (n1 : starEach [a] X.env = (false, eval a X.env) :: starEach [] X.env := by rfl) : PE X (.Call (.Name "len" p) [.Call (.Name "set" p2) [a] [] q] [] pos) (tLenTxt X.K ta) := by
  refine ⟨fun pins s σ H Q I h => Call_ (ld_blt I g1 m1 boot_len (callWith_builtin1 (args_cons (Call_ (ld_blt I g2 m2 boot_set (callWith_type1 (args_cons (thn (ha.run pins s σ H _ I h) fun v s1 ⟨x, H1, J, r1, want⟩ => args_nil ?_) n1) n1 rfl))) rfl) rfl rfl))⟩
  obtain ⟨l, xs, rfl, sq, nd, few, want⟩ := want
  obtain rfl : v = Value.ref l := r1
  have few2 : xs.length + 1 < scanBound := by unfold scanBound; omega
  have fin : ∀ (h' : Heap) (tk : Nat), SetAt X.prog X.w h' s1.heap.objs.size xs xs.length → (∀ b o, s1.heap.get? b = some o → h'.get? b = some o) →
      wpAny (model X.prog X.w) X.A (spliced (backTo pos (starEach [] X.env))) (fun vs s2 => wpAny (model X.prog X.w) X.A (call (.builtin "len") (Value.ref s1.heap.objs.size :: vs)) (EP X pins σ Q) X.xe s2) X.xe { s1 with heap := h', toks := tk } := fun h' tk sa keep => args_nil (by
    obtain ⟨o, es, ep, t, ho, hex, hdt, _, _, _, hf, hn⟩ := sa
    exact call_len_set ho hex hdt hf (by rw [hn]; omega) ⟨.int xs.length, H1, (J.kept (t' := tk) keep).tok _, ⟨_, by rw [hn]⟩, want⟩)
  rcases sq with sq | sq
  · obtain ⟨its, rs, pl, _⟩ := J.list sq
    exact call_set_texts false (J.ok.hd hc) pl.isList (by simpa using strs_vals rs) nd few2 fin
  · obtain ⟨its, rs, pl, _⟩ := J.tuple sq
    exact call_set_texts true (J.ok.hd hc) (show s1.heap.IsTuple l its.toArray from pl) (by simpa using strs_vals rs) nd few2 fin
end
end LL
namespace LL
open PySem PySem.Spec PyProof.Rows L2
/-! ### enumerate(t), t a tuple -/
theorem meets_enum_tup (l : Addr) (items : Array Value) :
    Meets (Builtin.«enumerate.__new__» ⟨[.type "enumerate", .ref l], []⟩) (fun _ R s => s.heap.IsTuple l items ∧
      R (.ok (.ret (.ref (s.heap.push { cls := .type "tuple_iterator", data := .fields #[.ref l, .int 0 0] }).objs.size)))
        { s with heap := (s.heap.push { cls := .type "tuple_iterator", data := .fields #[.ref l, .int 0 0] }).push { cls := .type "enumerate", data := .fields #[.none, .bool false, .ref s.heap.objs.size, rawInt 0, .none, .none] } }) :=
  .of_wp fun prog w A R s h => by
    obtain ⟨hp, g, d, tk, os⟩ := s; obtain ⟨it, h⟩ := h
    have sub := sub_enumerate
    have go : ∀ {A' : Around} {E : Value → Shared → Prop} {Q : Value → Shared → Prop}, Q (.ref hp.objs.size) ⟨hp.push { cls := .type "tuple_iterator", data := .fields #[.ref l, .int 0 0] }, g, d, tk, os⟩ → wpAny (model prog w) A' (pyIter (.ref l)) Q E ⟨hp, g, d, tk, os⟩ :=
      fun q => wpAny_pyIter_tuple it q
    wp_walk using go; refine wpAny_stack_any fun st => wpAny_pure ?_
    split
    · rename_i c _ _ _ _ _
      cases (c == Value.type "enumerate") <;> (wp_walk using go; exact ⟨_, rfl, h⟩)
    · wp_walk using go; exact ⟨_, rfl, h⟩
theorem call_enum_tup {prog : Program} {w : World} {A : Around} {E : Value → Shared → Prop} {s : Shared} {l : Addr} {items : Array Value} {Q : Value → Shared → Prop} (it : s.heap.IsTuple l items)
    (q : ∀ h', IsEnum h' (s.heap.objs.size + 1) s.heap.objs.size 0 .none → h'.IsTupleIter s.heap.objs.size l 0 → (∀ b o, s.heap.get? b = some o → h'.get? b = some o) → Q (.ref (s.heap.objs.size + 1)) { s with heap := h' }) :
    wpAny (model prog w) A (call (.type "enumerate") [.ref l]) Q E s := by
  refine callType_new F.called_enumerate (by decide) (F.typeCall_enumerate_1 _) (F.newCall_enumerate_1 _) (fun ob => F.args_object_init_2 ob _) F.entry_enumerate_new (meets_enum_tup l items) ⟨it, ?_⟩
  have sz : (s.heap.push { cls := .type "tuple_iterator", data := .fields #[.ref l, .int 0 0] }).objs.size = s.heap.objs.size + 1 := Heap.size_push ..
  have e1 := Heap.get?_push_size (s.heap.push { cls := .type "tuple_iterator", data := .fields #[.ref l, .int 0 0] }) (o := { cls := .type "enumerate", data := .fields #[.none, .bool false, .ref s.heap.objs.size, rawInt 0, .none, .none] }) rfl
  rw [sz] at e1 ⊢
  exact ⟨⟨_, e1, rfl⟩, q _ e1 ⟨_, Heap.get?_push_of_some _ (Heap.get?_push_size _ rfl), rfl, rfl⟩ fun b o x => Heap.get?_push_of_some _ (Heap.get?_push_of_some _ x)⟩
/-- the tuple at a, each item in a new pair -/
def IteT (K : PySem.W.Frag) (a : Addr) : It :=
  ⟨fun i H => ∃ (xs : List V) (x : V), SqT K H a xs ∧ xs[i]? = some x, fun i H v H' => ∃ T x, v = .ref T ∧ H T = none ∧ H' = upd H T (.tup [.int (i : Nat), x]) ∧ ∀ xs, SqT K H a xs → xs[i]? = some x, fun i H => ∃ xs : List V, SqT K H a xs ∧ xs.length = i⟩
theorem turn_enumT {P : Program} {w : World} {K : PySem.W.Frag} {elts : List Expr} {kk : Nat} {tpos : Pos} (a e it : Addr) (na : a ≠ it) (nea : e ≠ a) :
    Turn P w K (.Tuple elts kk tpos) (IteT K a) [e, it] e (fun i h => (∃ old, IsEnum h e it ((i : Nat) : Int) old) ∧ h.IsTupleIter it a i ∧ e ≠ it) where
  mem := List.mem_cons_self
  obj := fun i h st b hb => by
    obtain ⟨⟨old, he⟩, ⟨o, ho, hc, hd⟩, _⟩ := st
    rcases List.mem_cons.mp hb with rfl | hb
    · exact ⟨_, he, fun v z => nomatch z⟩
    · obtain rfl := List.mem_singleton.mp hb
      exact ⟨o, ho, fun v z => by rw [hd] at z; cases z⟩
  keep := fun i h h' ⟨⟨old, he⟩, hi, ne⟩ k => ⟨⟨old, k e List.mem_cons_self _ he⟩, hi.at fun o q => k it (List.mem_cons_of_mem _ List.mem_cons_self) o q, ne⟩
  item := by
    intro X hP hw hK hc i pins s σ H E I hf st hg
    subst hP hw hK
    obtain ⟨⟨old, he⟩, hit, ne⟩ := st
    obtain ⟨xs, x, sq, hx⟩ := hg
    obtain ⟨its, rv, pl, _⟩ := I.tuple sq
    obtain ⟨u, hu, ru⟩ := rv.get hx
    have lt : i < its.toArray.size := by rw [List.size_toArray]; exact (List.getElem?_eq_some_iff.mp hu).1
    have le : e < s.heap.objs.size := Heap.lt_size he
    have li : it < s.heap.objs.size := by obtain ⟨_, q, _⟩ := hit; exact Heap.lt_size q
    have hd : X.A.in1.handled = none := by
      have := I.ok.hd hc
      simpa using this
    refine wpAny_pyNext_enum_itemD (Draws.tuple hd it a na its.toArray) he ⟨hit, pl⟩ lt ne (by
      simp only [List.mem_cons, List.not_mem_nil, or_false, not_or]
      exact ⟨ne, nea⟩) fun x' h' tk hP' ho st' hT hsz hk => ?_
    obtain rfl : x' = u := by
      have hP' : its.toArray[i]? = some x' := hP'
      rw [← Array.getElem?_toList] at hP'
      exact Option.some.inj (hP'.symm.trans hu)
    refine ⟨_, rfl, wpAny_letOwnedTupleGo_enum (s := { s with heap := h', toks := tk + 1 }) ho fun h2 he2 sb => ?_⟩
    have hT2 : h2.get? s.heap.objs.size = some { cls := .type "tuple", data := .seq #[.int i tk, x'] } := (sb.2 _ (Nat.ne_of_gt le)).trans hT
    have new : ObjOk X.prog X.w (upd H s.heap.objs.size (.tup [.int (i : Nat), x])) h2 s.heap.objs.size (.tup [.int (i : Nat), x]) :=
      ⟨by show 2 ≤ sizeLine; decide, [.int i tk, x'], .cons ⟨_, rfl⟩ (.cons ru .nil), ⟨_, hT2, rfl, _, rfl⟩⟩
    have I1 : Inv X pins σ (upd H s.heap.objs.size (.tup [.int (i : Nat), x])) { s with heap := h2, toks := tk + 1 } :=
      I.turnedNew (ch := [e, it]) (fun b o hb q => (sb.2 b fun z => hb (z ▸ List.mem_cons_self)).trans (hk b o (fun z => hb (z ▸ List.mem_cons_self)) (fun z => hb (z ▸ List.mem_cons_of_mem _ List.mem_cons_self)) q)) hf (Nat.le_refl _) new
    refine ⟨.ref s.heap.objs.size, _, I1, rfl, ⟨_, x, rfl, I.hok.fresh (Nat.le_refl _), rfl, fun ys hy => by rw [I.tuple_inj hy sq]; exact hx⟩, ⟨⟨x', ?_⟩, st'.1.at fun o q => (sb.2 it (Ne.symm ne)).trans q, ne⟩, fun b hb => ?_⟩
    · rw [show ((i + 1 : Nat) : Int) = (i : Int) + 1 by omega]
      exact he2
    · have lb : b < s.heap.objs.size := by
        rcases List.mem_cons.mp hb with rfl | hb
        · exact le
        · obtain rfl := List.mem_singleton.mp hb
          exact li
      rw [upd_ne (Nat.ne_of_lt lb)]
      exact (hf b hb).1
  done := by
    intro X hP hw hK hc i pins s σ H E I hf st hg
    subst hP hw hK
    obtain ⟨⟨old, he⟩, hit, ne⟩ := st
    obtain ⟨xs, sq, hx⟩ := hg
    obtain ⟨its, rv, pl, _⟩ := I.tuple sq
    obtain ⟨f0, f1, f2, f3, f4, f5⟩ := hf it (List.mem_cons_of_mem _ List.mem_cons_self)
    have hd : X.A.in1.handled = none := by
      have := I.ok.hd hc
      simpa using this
    have ln : its.toArray.size = i := by rw [List.size_toArray, ← rv.length]; exact hx
    exact wpAny_pyNext_enum_endD (Draws.tuple hd it a na its.toArray) he (by rw [ln]; exact ⟨hit, pl⟩) fun h' eb => ⟨rfl, I.turned (t' := s.toks) (fun b o hb q => eb b o hb q) f0 f1 f3 f4 f5⟩
  self := fun A i s Q E ⟨⟨_, he⟩, _⟩ h => wpAny_pyIter_enum he h
def iEnumT (K : PySem.W.Frag) (ta : TA) : TI := fun σ H R => ta σ H fun vs H1 => ∃ a xs, vs = [.ref a] ∧ SqT K H1 a xs ∧ R (IteT K a) H1
theorem pi_enumT {X : Cx} {e : Expr} {ta : TA} {p pos tpos : Pos} {elts : List Expr} {kk : Nat} (hg : Gl X "enumerate") (hm : X.mg "enumerate" = none) (ha : PA X [e] ta) (hs : starEach [e] X.env = [(false, eval e X.env)] := by rfl) :
    PI X (.Tuple elts kk tpos) (.Call (.Name "enumerate" p) [e] [] pos) (iEnumT X.K ta) := by
  refine ⟨fun pins s σ H R I h => Call_ (ld_blt I hg hm boot_enumerate (callWith_type1 (thn (ha.run pos pins s σ H _ I h) fun us s1 ⟨vs, H1, J, rv, a, xs, ex, sq, want⟩ => ?_) hs rfl))⟩
  subst ex
  cases rv with
  | cons r rr =>
    cases rr
    cases r
    obtain ⟨its, rs, pl, _⟩ := J.tuple sq
    have pl' : s1.heap.IsTuple a its.toArray := pl
    have la : a < s1.heap.objs.size := by
      obtain ⟨o, ho, _⟩ := pl'
      exact Heap.lt_size ho
    refine call_enum_tup pl' fun h' he hit keep => wpAny_pyIter_enum he ?_
    refine ⟨s1.heap.objs.size + 1, [s1.heap.objs.size + 1, s1.heap.objs.size], _, _, H1, rfl, J.kept (t' := s1.toks) keep, turn_enumT a (s1.heap.objs.size + 1) s1.heap.objs.size (Nat.ne_of_lt la) (Nat.ne_of_gt (Nat.lt_succ_of_lt la)), ⟨⟨.none, he⟩, hit, Nat.succ_ne_self _⟩, fun b hb => ?_, want⟩
    have le : s1.heap.objs.size ≤ b := by
      rcases List.mem_cons.mp hb with rfl | hb
      · exact Nat.le_succ _
      · obtain rfl := List.mem_singleton.mp hb
        exact Nat.le_refl _
    exact J.fpOk le (J.hok.fresh le)
/-! ### one rule or the other -/
theorem pe_or {X : Cx} {e : Expr} {t u : TE} (h : PE X e t) (g : PE X e u) : PE X e (fun σ H Q => t σ H Q ∨ u σ H Q) :=
  ⟨fun pins s σ H Q I q => q.elim (fun q => h.run pins s σ H Q I q) fun q => g.run pins s σ H Q I q⟩
theorem pi_or {X : Cx} {tg e : Expr} {t u : TI} (h : PI X tg e t) (g : PI X tg e u) : PI X tg e (fun σ H R => t σ H R ∨ u σ H R) :=
  ⟨fun pins s σ H R I q => q.elim (fun q => h.run pins s σ H R I q) fun q => g.run pins s σ H R I q⟩
end LL
namespace LL
open PySem PySem.Spec PyProof.Rows L2
/-! ### tuple(d): its keys -/
section
variable {prog : Program} {w : World} {A : Around} {E : Value → Shared → Prop} {s : Shared} {r d : Addr} {n : Nat} {Pk : Nat → Value → Prop} {OK : Heap → Prop}
theorem gather_keys {Q : List Value → Shared → Prop} (K : PySem.W.KdlSrc prog w "dict" r d n Pk OK) (hd : A.handled = none) (ok : OK s.heap) (few : n ≤ sizeLine)
    (q : ∀ (h' : Heap) (tk : Nat) (acc : Array Value), (∀ b o, s.heap.get? b = some o → h'.get? b = some o) → ItemsOf Pk acc n → Q acc.toList { s with heap := h', toks := tk }) :
    wpAny (model prog w) A (collect (.ref r)) Q E s := by
  obtain ⟨lr, ld⟩ := K.there _ ok
  have eS : (s.heap.push { cls := .type "list", data := .seq ([] : List Value).toArray }).get? s.heap.objs.size = some { cls := .type "list", data := .seq #[] 0 } := Heap.get?_push_size _ rfl
  unfold collect
  refine wpAny_bind (wpAny_runValue (codeAny_builtin F.entry_proto_collect ?_))
  rw [Around.under_plainId F.plain_proto_collect _]; show wpAny _ A.in1 (newList [] >>= fun l => again (.builtin "list.__iadd__" ⟨[l, .ref r], []⟩)) _ _ s
  refine wpAny_bind (wpAny_newObj_type (wpAny_pure ⟨plainId_quiet F.plain_list_iadd _, codeAny_builtin F.entry_list_iadd ?_⟩))
  rw [Around.under_plainId F.plain_list_iadd _]; show wpAny _ A.in1 (Builtin.List.listExtendWith (.ref s.heap.objs.size) (.ref r) (.ref s.heap.objs.size)) _ _ _
  refine wpAny_mono (PySem.W.kdl_extend (A := A) (R := fun rr s' => rr = .ok (.ret (.ref s.heap.objs.size)) ∧ ∃ (h' : Heap) (tk : Nat) (acc : Array Value) (c' : Nat), s' = { s with heap := h', toks := tk } ∧ (∀ b o, s.heap.get? b = some o → h'.get? b = some o) ∧ h'.get? s.heap.objs.size = some { cls := .type "list", dict := none, data := .seq acc c', slots := #[] } ∧ ItemsOf Pk acc n)
    (s := { s with heap := s.heap.push { cls := .type "list", data := .seq ([] : List Value).toArray } }) K hd (K.keep _ _ ok fun b _ o e => Heap.get?_push_of_some _ e) _ (Nat.ne_of_gt lr) (Nat.ne_of_gt ld) _ 0 eS
    (fun h' tk acc c' keep e its => ⟨rfl, h', tk, acc, c', rfl, fun b o z => keep b o (Nat.ne_of_lt (Heap.lt_size z)) (Heap.get?_push_of_some _ z), e, its⟩) few) (fun z s' h => ?_) (fun e s' h => absurd h.1 (by simp))
  cases z with
  | done f =>
    obtain ⟨e, rest⟩ := h
    cases e
    obtain ⟨h', tk, acc, c', e, keep, eS', its⟩ := rest
    subst e
    show wpAny _ A (load s.heap.objs.size >>= _) _ _ _
    exact wpAny_bind (wpAny_load eS' (wpAny_pure (q h' tk acc keep its)))
  | again c' =>
    refine ⟨h.1, codeAny_mono h.2 fun rr s2 hr => ?_⟩
    obtain ⟨rfl, h', tk, acc, c', e, keep, eS', its⟩ := hr
    subst e
    show wpAny _ A (load s.heap.objs.size >>= _) _ _ _
    exact wpAny_bind (wpAny_load eS' (wpAny_pure (q h' tk acc keep its)))
theorem call_tuple_keys {Q : Value → Shared → Prop} (K : PySem.W.KdlSrc prog w "dict" r d n Pk OK) (hd : A.handled = none) (ok : OK s.heap) (few : n ≤ sizeLine)
    (q : ∀ (h' : Heap) (tk : Nat) (acc : Array Value), (∀ b o, s.heap.get? b = some o → h'.get? b = some o) → ItemsOf Pk acc n → Q (.ref h'.objs.size) { s with heap := h'.push { cls := .type "tuple", data := .seq acc }, toks := tk }) :
    wpAny (model prog w) A (call (.type "tuple") [.ref r]) Q E s := by
  have made : codeAny (model prog w) A.in1 (.call (.builtin "tuple.__new__") ⟨[.type "tuple", .ref r], []⟩) (wants (fun ob s1 => s1.TypeIs ob "tuple" ∧ Q ob s1) E) s := by
    refine codeAny_of_tree ?_
    show wpAny _ A.in1.in1 (do checkBuiltinCall "tuple.__new__" ⟨[.type "tuple", .ref r], []⟩; again (.builtin "tuple.__new__" ⟨[.type "tuple", .ref r], []⟩)) _ _ s
    refine wpAny_bind (wpAny_of_eq (F.newCall_tuple_1 _) (wpAny_pure ⟨plainId_quiet F.plain_tuple_new _, codeAny_builtin F.entry_tuple_new ?_⟩))
    rw [Around.under_plainId F.plain_tuple_new _]
    have e1 := sub_tuple_self; have e2 := init_tuple_lookup; have e3 := madeHere_tuple
    have tI := K.type s ok
    have hd2 : A.in1.in1.handled = none := by simp [hd]
    wp_walk using wpAny_typeOf tI, gather_keys (A := A.in1.in1) K hd2 ok few
    intro h' tk acc keep its
    have ea : acc.toList.toArray = acc := by simp
    show wpAny _ _ (Builtin.Tuple.tupleExact acc.toList.toArray >>= fun v => ret v) _ _ _
    unfold Builtin.Tuple.tupleExact
    rw [ea]
    exact wpAny_bind (wpAny_newObj_type (wpAny_pure ⟨⟨_, Heap.get?_push_size _ rfl, rfl⟩, q h' tk acc keep its⟩) (by show acc.size ≤ sizeLine; rw [its.1]; exact few))
  exact callType_codes (Q₁ := fun ob s1 => s1.TypeIs ob "tuple" ∧ Q ob s1) F.called_tuple (F.typeCall_tuple_1 _) F.entry_object_init made fun ob s1 h1 => ⟨h1.1, F.args_object_init_2 ob _, object_init_meets F.called_tuple.init.lookup F.called_tuple.made (by decide) prog w A.in1 _ s1 ⟨h1.1, rfl, h1.2⟩⟩
end
theorem call_tupleD {X : Cx} (hc : X.calm = true) : CallR X (.type "tuple") (fun xs H Q => ∃ (a : Addr) (kvs : List (Key × V)), xs = [.ref a] ∧ Rd H a (.dK kvs) ∧ ∀ p, H p = none → Q (.ref p) (upd H p (.tup (kvs.map fun kv => kV kv.1)))) := by
  intro pins s σ H xs us Q I r ⟨a, kvs, ex, hd, q⟩
  subst ex
  obtain ⟨u, eu, rx⟩ := vals1 r
  subst eu
  cases rx
  obtain ⟨z, lo, vs, rel, dd⟩ := dk_rd I.hok hd
  obtain ⟨ep, hat⟩ := dd.dictAt
  have ek : (kvs.map fun kv => kV kv.1) = vs.map fun p => kV p.1 := by
    have := congrArg (List.map kV) rel.keys
    rwa [List.map_map, List.map_map] at this
  refine call_tuple_keys (PySem.W.kdl_dict (knd := mixKind X.prog X.w) (kvs := vs) (ep := ep) lo) (I.ok.hd hc) hat (by rw [← rel.length]; exact z) fun h' tk acc keep its => ?_
  have hv : Vals (vs.map fun p => kV p.1) acc.toList := keys_at (by rw [Array.length_toList]; exact its.1) fun j v e => its.2 j v (by rw [← Array.getElem?_toList]; exact e)
  have I1 : Inv X pins σ H { s with heap := h', toks := tk } := I.kept keep
  exact ⟨.ref h'.objs.size, upd H h'.objs.size (.tup (kvs.map fun kv => kV kv.1)), I1.laid (t' := tk) (fun b o e => Heap.get?_push_of_some _ e) (Nat.le_refl _)
    (show ObjOk X.prog X.w _ _ _ (.tup (kvs.map fun kv => kV kv.1)) from ⟨by rw [List.length_map]; exact z, acc.toList, by rw [ek]; exact hv, by rw [Array.toArray_toList]; exact IsTup.new _ _⟩), rfl, q _ (I1.hok.fresh (Nat.le_refl _))⟩
end LL
namespace LL
open PySem PySem.Spec PyProof.Rows L2
/-! ### several tables of code -/
structure Nws (Ps : List Addr) (H H' : Hp) : Prop where
  was : ∀ P ∈ Ps, GxR.TabG H P
  tab : ∀ P ∈ Ps, GxR.TabG H' P
  old : ∀ b o, b ∉ Ps → H b = some o → H' b = some o
theorem Nws.refl {Ps : List Addr} {H : Hp} (h : ∀ P ∈ Ps, GxR.TabG H P) : Nws Ps H H := ⟨h, h, fun _ _ _ e => e⟩
theorem Nws.trans {Ps : List Addr} {H H1 H2 : Hp} (x : Nws Ps H H1) (y : Nws Ps H1 H2) : Nws Ps H H2 := ⟨x.was, y.tab, fun b o n e => y.old b o n (x.old b o n e)⟩
theorem Nws.of {Ps : List Addr} {P : Addr} {H H' : Hp} (h : ∀ P ∈ Ps, GxR.TabG H P) (m : P ∈ Ps) (t : GxR.Tabbed P H H') : Nws Ps H H' := by
  refine ⟨h, fun R hR => ?_, fun b o n e => by rw [t.2 b (fun z => n (z ▸ m))]; exact e⟩
  by_cases z : R = P
  · rw [z]
    exact t.1
  · obtain ⟨ps, e, tr⟩ := h R hR
    exact ⟨ps, by rw [t.2 R z]; exact e, tr⟩
theorem tabs_ne {Ps : List Addr} {a : Addr} {H : Hp} {o : HO} (h : ∀ P ∈ Ps, GxR.TabG H P) (e : H a = some o) (n : ∀ q, o ≠ .tbl q) : a ∉ Ps := fun z => tab_ne (h a z) e n rfl
theorem tabs_new {Ps : List Addr} {p : Addr} {H : Hp} {u : HO} (h : ∀ P ∈ Ps, GxR.TabG H P) (hp : H p = none) : ∀ P ∈ Ps, GxR.TabG (L2.upd H p u) P := fun P hP => tab_upd (h P hP) (tab_free (h P hP) hp)
theorem Nws.new {Ps : List Addr} {p : Addr} {H H1 : Hp} {u : HO} (x : Nws Ps H H1) (hp : H1 p = none) : Nws Ps H (L2.upd H1 p u) :=
  ⟨x.was, tabs_new x.tab hp, fun c v n q => by rw [upd_ne (ne_of_none (x.old c v n q) hp)]; exact x.old c v n q⟩
theorem Nws.put {Ps : List Addr} {p : Addr} {H H1 : Hp} {u o : HO} (x : Nws Ps H H1) (hp : H p = none) (ho : H1 p = some o) (n : ∀ q, o ≠ .tbl q) : Nws Ps H (L2.upd H1 p u) :=
  ⟨x.was, fun P hP => tab_upd (x.tab P hP) (fun z => tab_ne (x.tab P hP) ho n z.symm), fun c v m q => by rw [upd_ne (ne_of_none q hp)]; exact x.old c v m q⟩
theorem Nws.get {Ps : List Addr} {a : Addr} {H H' : Hp} {o : HO} (x : Nws Ps H H') (e : H a = some o) (n : ∀ q, o ≠ .tbl q) : H' a = some o := x.old a o (tabs_ne x.was e n) e
theorem Nws.lst {Ps : List Addr} {a : Addr} {H H' : Hp} {xs : List V} (x : Nws Ps H H') (e : H a = some (.lst xs)) : H' a = some (.lst xs) := x.get e (fun q z => by cases z)
theorem Nws.tup {Ps : List Addr} {a : Addr} {H H' : Hp} {xs : List V} (x : Nws Ps H H') (e : H a = some (.tup xs)) : H' a = some (.tup xs) := x.get e (fun q z => by cases z)
theorem Nws.keep {Ps : List Addr} {H H' : Hp} (x : Nws Ps H H') : Keep H H' := fun b o n e => x.get e n
theorem Nws.free {Ps : List Addr} {a : Addr} {H H' : Hp} (x : Nws Ps H H') (e : H' a = none) : H a = none := by
  cases q : H a with
  | none => rfl
  | some o =>
    by_cases z : a ∈ Ps
    · obtain ⟨ps, e2, _⟩ := x.tab a z
      rw [e2] at e
      cases e
    · rw [x.old a o z q] at e
      cases e
theorem Exd.nws {Ps : List Addr} {H H' : Hp} (x : Exd H H') (t : ∀ P ∈ Ps, GxR.TabG H P) : Nws Ps H H' :=
  ⟨t, fun P hP => let ⟨ps, e, tr⟩ := t P hP; ⟨ps, x P _ e, tr⟩, fun b o _ e => x b o e⟩
/-! ### a frame's parts -/
/-- the keys and their places -/
def placesF : Nat → List Str → List (L2.Key × V)
  | _, [] => []
  | i, k :: ks => (.inr k, .int (i : Int)) :: placesF (i + 1) ks
def places (ks : List Str) : List (L2.Key × V) := placesF 0 ks
theorem placesF_app : ∀ (i : Nat) (ks : List Str) (k : Str), placesF i (ks ++ [k]) = placesF i ks ++ [(.inr k, .int ((i + ks.length : Nat) : Int))]
  | i, [], k => rfl
  | i, j :: ks, k => by
    show _ :: placesF (i + 1) (ks ++ [k]) = _ :: (placesF (i + 1) ks ++ _)
    rw [placesF_app (i + 1) ks k, List.length_cons, show i + 1 + ks.length = i + (ks.length + 1) by omega]
theorem places_len : ∀ (i : Nat) (ks : List Str), (placesF i ks).length = ks.length
  | _, [] => rfl
  | i, k :: ks => by
    show (placesF (i + 1) ks).length + 1 = ks.length + 1
    rw [places_len]
theorem places_keys : ∀ (i : Nat) (ks : List Str), (placesF i ks).map (fun kv => kV kv.1) = ks.map V.str
  | _, [] => rfl
  | i, k :: ks => by
    show V.str k :: (placesF (i + 1) ks).map _ = V.str k :: ks.map V.str
    rw [places_keys]
theorem places_val : ∀ (i : Nat) (ks : List Str) (k : Str), (valV (placesF i ks) (.inr k)).isSome = decide (k ∈ ks)
  | _, [], k => rfl
  | i, j :: ks, k => by
    have ih := places_val (i + 1) ks k
    unfold valV at ih ⊢
    show (((((.inr j, .int (i : Int)) : L2.Key × V) :: placesF (i + 1) ks).find? fun kv => decide (kv.1 = .inr k)).map (·.2)).isSome = _
    by_cases e : j = k
    · subst e
      rw [List.find?_cons_of_pos (by simp)]
      simp
    · rw [List.find?_cons_of_neg (by simpa using e), ih, decide_eq_decide, List.mem_cons]
      exact ⟨.inr, fun h => h.elim (fun z => absurd z.symm e) id⟩
theorem places_at : ∀ (i : Nat) (ks : List Str) (j : Nat) (k : Str), ks.Nodup → ks[j]? = some k → valV (placesF i ks) (.inr k) = some (.int ((i + j : Nat) : Int))
  | _, [], _, _, _, h => nomatch h
  | i, x :: ks, 0, k, _, h => by
    obtain rfl : x = k := Option.some.inj h
    unfold valV
    show (((((.inr x, .int (i : Int)) : L2.Key × V) :: placesF (i + 1) ks).find? fun kv => decide (kv.1 = .inr x)).map (·.2)) = _
    rw [List.find?_cons_of_pos (by simp)]
    rfl
  | i, x :: ks, j + 1, k, nd, h => by
    have nd' := List.nodup_cons.mp nd
    have hk : ks[j]? = some k := h
    have ne : ¬ x = k := fun z => nd'.1 (z ▸ List.mem_of_getElem? hk)
    have ih := places_at (i + 1) ks j k nd'.2 hk
    unfold valV at ih ⊢
    show (((((.inr x, .int (i : Int)) : L2.Key × V) :: placesF (i + 1) ks).find? fun kv => decide (kv.1 = .inr k)).map (·.2)) = _
    rw [List.find?_cons_of_neg (by simpa using ne), ih, show i + 1 + j = i + (j + 1) by omega]
theorem places_put {ks : List Str} {i : Nat} {k : Str} (nd : ks.Nodup) (e : ks[i]? = some k) : putK (places (ks.take i)) (.inr k) (.int (i : Int)) = places (ks.take (i + 1)) := by
  obtain ⟨hi, rfl⟩ := List.getElem?_eq_some_iff.mp e
  have no : ¬ ks[i] ∈ ks.take i := fun m => by
    obtain ⟨j, hj⟩ := List.mem_iff_getElem?.mp m
    rw [List.getElem?_take] at hj
    by_cases l : j < i
    · rw [if_pos l] at hj
      obtain ⟨hj', ej⟩ := List.getElem?_eq_some_iff.mp hj
      exact absurd ej (List.pairwise_iff_getElem.mp nd j i hj' hi l)
    · rw [if_neg l] at hj
      cases hj
  have z := places_val 0 (ks.take i) ks[i]
  rw [decide_eq_false no] at z
  have z2 : ((placesF 0 (ks.take i)).any fun kv => decide (kv.1 = .inr ks[i])) = false := by
    cases q : (placesF 0 (ks.take i)).any fun kv => decide (kv.1 = .inr ks[i]) with
    | false => rfl
    | true =>
      exfalso
      obtain ⟨y, hy, ey⟩ := List.any_eq_true.mp q
      unfold valV at z
      cases f : (placesF 0 (ks.take i)).find? fun kv => decide (kv.1 = .inr ks[i]) with
      | some v => rw [f] at z; cases z
      | none => exact absurd ey (by simpa using List.find?_eq_none.mp f y hy)
  unfold putK places
  rw [if_neg (by rw [z2]; exact Bool.false_ne_true), List.take_add_one, e]
  show _ = placesF 0 (ks.take i ++ [ks[i]])
  rw [placesF_app, List.length_take, Nat.zero_add, Nat.min_eq_left (Nat.le_of_lt hi)]
/-- the attributes, in the order in which they are stored -/
def flds (d : Addr) (days turns : Nat) : List (Str × V) := putF "_places" (.ref d) (putF "turns" (.int (turns : Int)) (putF "days" (.int (days : Int)) []))
theorem n1 : ¬ (("turns" : Str) = "_places") := by decide +kernel
theorem n2 : ¬ (("days" : Str) = "_places") := by decide +kernel
theorem n3 : ¬ (("days" : Str) = "turns") := by decide +kernel
theorem flds_days (d : Addr) (days turns : Nat) : (flds d days turns).lookup ("days" : Str) = some (.int (days : Int)) := by
  unfold flds
  rw [lookup_putF, if_neg n2, lookup_putF, if_neg n3, lookup_putF, if_pos rfl]
theorem flds_turns (d : Addr) (days turns : Nat) : (flds d days turns).lookup ("turns" : Str) = some (.int (turns : Int)) := by
  unfold flds
  rw [lookup_putF, if_neg n1, lookup_putF, if_pos rfl]
theorem flds_places (d : Addr) (days turns : Nat) : (flds d days turns).lookup ("_places" : Str) = some (.ref d) := by
  unfold flds
  rw [lookup_putF, if_pos rfl]
theorem flds_no (d : Addr) (days turns : Nat) {m : Str} (h1 : ¬ m = "_places") (h2 : ¬ m = "turns") (h3 : ¬ m = "days") : (flds d days turns).lookup m = none := by
  unfold flds
  rw [lookup_putF, if_neg h1, lookup_putF, if_neg h2, lookup_putF, if_neg h3]
  rfl
/-- a frame as it is told -/
structure Fr where
  keys : List Str
  days : Nat
  turns : Nat
/-- a Frame stands at p -/
def FrameAt (C : Addr) (H : Hp) (p : Addr) (f : Fr) : Prop := ∃ dx d, H p = some (.ins C dx (flds d f.days f.turns)) ∧ H d = some (.dK (places f.keys))
theorem FrameAt.nws {C p : Addr} {H H' : Hp} {f : Fr} {Ps : List Addr} (h : FrameAt C H p f) (x : Nws Ps H H') : FrameAt C H' p f := by
  obtain ⟨dx, d, e1, e2⟩ := h
  exact ⟨dx, d, x.get e1 (fun q z => by cases z), x.get e2 (fun q z => by cases z)⟩
theorem FrameAt.exd {C p : Addr} {H H' : Hp} {f : Fr} (h : FrameAt C H p f) (x : Exd H H') : FrameAt C H' p f := by
  obtain ⟨dx, d, e1, e2⟩ := h
  exact ⟨dx, d, x _ _ e1, x _ _ e2⟩
/-- a key: such a thing -/
def isKeyV (ks : List Str) : V → Bool
  | .str z => decide (z ∈ ks)
  | _ => false
end LL
namespace LL
open PySem PySem.Spec PyProof.Rows L2
/-! ### texts as data -/
def pds (ws : List Str) : List PyData := ws.map PyData.str
theorem dp_strs {K : PySem.W.Frag} {H : Hp} : ∀ ws : List Str, DpAll K H (ws.map V.str) (pds ws)
  | [] => .nil
  | x :: r => .cons (.str x) (dp_strs r)
theorem can_strs : ∀ ws : List Str, (∀ x ∈ ws, PyData.strOk x = true) → PyData.canLayAll0 (pds ws) = true
  | [], _ => rfl
  | x :: r, h => by
    show (PyData.canLay0 (.str x) && PyData.canLayAll0 (pds r)) = true
    rw [can_strs r fun y hy => h y (List.mem_cons_of_mem _ hy), Bool.and_true]
    exact h x List.mem_cons_self
theorem dep_strs : ∀ ws : List Str, PyData.depthAll (pds ws) ≤ 1
  | [] => by decide
  | x :: r => by
    show max (PyData.depth (.str x)) (PyData.depthAll (pds r)) ≤ 1
    have := dep_strs r
    have e : PyData.depth (.str x) ≤ 1 := by simp [PyData.depth]
    omega
theorem shaped_strs (ws : List Str) (h : ∀ x ∈ ws, PyData.strOk x = true) : SeqAt.shaped (.list (pds ws)) = true := by
  unfold SeqAt.shaped
  rw [Bool.and_eq_true]
  refine ⟨can_strs ws h, decide_eq_true ?_⟩
  show PyData.depthAll (pds ws) + 1 ≤ 64
  have := dep_strs ws
  omega
theorem eqv_strs : ∀ ws us : List Str, PyData.eqvAll (pds ws) (pds us) = decide (ws = us)
  | [], [] => rfl
  | [], _ :: _ => rfl
  | _ :: _, [] => rfl
  | x :: r, y :: t => by
    show (PyData.eqv (.str x) (.str y) && PyData.eqvAll (pds r) (pds t)) = _
    rw [eqv_strs r t, Bool.eq_iff_iff, Bool.and_eq_true, decide_eq_true_eq, decide_eq_true_eq]
    constructor
    · rintro ⟨a, b⟩
      have a' : (x == y) = true := a
      rw [beq_iff_eq.mp a', b]
    · intro e
      injection e with e1 e2
      exact ⟨show (x == y) = true from beq_iff_eq.mpr e1, e2⟩
/-- a list or a tuple of texts -/
def StrSq (H : Hp) (a : Addr) (ks : List Str) : Prop := H a = some (.lst (ks.map V.str)) ∨ H a = some (.tup (ks.map V.str))
theorem StrSq.nws {H H' : Hp} {a : Addr} {ks : List Str} {Ps : List Addr} (h : StrSq H a ks) (x : Nws Ps H H') : StrSq H' a ks := h.elim (fun e => .inl (x.lst e)) fun e => .inr (x.tup e)
theorem StrSq.exd {H H' : Hp} {a : Addr} {ks : List Str} (h : StrSq H a ks) (x : Exd H H') : StrSq H' a ks := h.elim (fun e => .inl (x _ _ e)) fun e => .inr (x _ _ e)
theorem StrSq.sq {K : PySem.W.Frag} {H : Hp} {a : Addr} {ks : List Str} (h : StrSq H a ks) : SqL K H a (ks.map V.str) ∨ SqT K H a (ks.map V.str) := h.elim (fun e => .inl (SqL.of e)) fun e => .inr (SqT.of e)
/-- {e: f for i, x in enumerate(xs)}, xs a list -/
theorem dc_enumL {K : PySem.W.Frag} {a : Addr} {xs : List V} {g : TG} {tt : TT} {tk tv : TE} {vs : List Nat} {σ : L2.St} {H1 : Hp} {D : Addr} {Qd : Hp → Prop} (J : Nat → Hp → Prop) (first : J 0 (upd H1 D (.dK []))) (still : ∀ i H, i ≤ xs.length → J i H → SqL K H a xs)
    (turn : ∀ i x H T, xs[i]? = some x → J i H → H T = none → g (.ref T) (wipe σ vs) (upd H T (.tup [.int (i : Nat), x])) fun σ2 H2 => wipe σ2 vs = wipe σ vs ∧ tt σ2 H2 fun b H3 =>
      if b = true then tk σ2 H3 fun y H4 => tv σ2 H4 fun z H5 => ∃ kvs k, y = kV k ∧ H5 D = some (.dK kvs) ∧ kvs.length < sizeLine ∧ J (i + 1) (upd H5 D (.dK (putK kvs k z))) else J (i + 1) H3) (last : ∀ H, J xs.length H → Qd H) :
    ∃ W : Nat → Nat → Hp → Prop, (∃ m, W 0 m (upd H1 D (.dK []))) ∧ ∀ i m H, W i m H →
      ((Ite K a).stop i H ∧ Qd H) ∨ ((Ite K a).go i H ∧ ∃ Nx : Hp → Prop, (∀ H', Nx H' → ∃ m', m' < m ∧ W (i + 1) m' H') ∧ ∀ x H', (Ite K a).yld i H x H' → g x (wipe σ vs) H' fun σ2 H2 => wipe σ2 vs = wipe σ vs ∧ tt σ2 H2 fun b H3 =>
        if b = true then tk σ2 H3 fun y H4 => tv σ2 H4 fun z H5 => ∃ kvs k, y = kV k ∧ H5 D = some (.dK kvs) ∧ kvs.length < sizeLine ∧ Nx (upd H5 D (.dK (putK kvs k z))) else Nx H3) := by
  refine ⟨fun i m H => m = xs.length - i ∧ i ≤ xs.length ∧ J i H, ⟨xs.length, by simp, Nat.zero_le _, first⟩, ?_⟩
  rintro i m H ⟨rfl, le, j⟩
  have sq := still i H le j
  rcases Nat.lt_or_ge i xs.length with lt | ge
  · refine .inr ⟨⟨xs, xs[i], sq, by simp [lt]⟩, J (i + 1), fun H' j' => ⟨xs.length - (i + 1), by omega, rfl, lt, j'⟩, fun y H' yl => ?_⟩
    obtain ⟨T, x, rfl, hT, rfl, e⟩ := yl
    exact turn i x H T (e xs sq) j hT
  · obtain rfl : i = xs.length := by omega
    exact .inl ⟨⟨xs, sq, Nat.le_refl _⟩, last H j⟩
/-- xs a tuple -/
theorem dc_enumT {K : PySem.W.Frag} {a : Addr} {xs : List V} {g : TG} {tt : TT} {tk tv : TE} {vs : List Nat} {σ : L2.St} {H1 : Hp} {D : Addr} {Qd : Hp → Prop} (J : Nat → Hp → Prop) (first : J 0 (upd H1 D (.dK []))) (still : ∀ i H, i ≤ xs.length → J i H → SqT K H a xs)
    (turn : ∀ i x H T, xs[i]? = some x → J i H → H T = none → g (.ref T) (wipe σ vs) (upd H T (.tup [.int (i : Nat), x])) fun σ2 H2 => wipe σ2 vs = wipe σ vs ∧ tt σ2 H2 fun b H3 =>
      if b = true then tk σ2 H3 fun y H4 => tv σ2 H4 fun z H5 => ∃ kvs k, y = kV k ∧ H5 D = some (.dK kvs) ∧ kvs.length < sizeLine ∧ J (i + 1) (upd H5 D (.dK (putK kvs k z))) else J (i + 1) H3) (last : ∀ H, J xs.length H → Qd H) :
    ∃ W : Nat → Nat → Hp → Prop, (∃ m, W 0 m (upd H1 D (.dK []))) ∧ ∀ i m H, W i m H →
      ((IteT K a).stop i H ∧ Qd H) ∨ ((IteT K a).go i H ∧ ∃ Nx : Hp → Prop, (∀ H', Nx H' → ∃ m', m' < m ∧ W (i + 1) m' H') ∧ ∀ x H', (IteT K a).yld i H x H' → g x (wipe σ vs) H' fun σ2 H2 => wipe σ2 vs = wipe σ vs ∧ tt σ2 H2 fun b H3 =>
        if b = true then tk σ2 H3 fun y H4 => tv σ2 H4 fun z H5 => ∃ kvs k, y = kV k ∧ H5 D = some (.dK kvs) ∧ kvs.length < sizeLine ∧ Nx (upd H5 D (.dK (putK kvs k z))) else Nx H3) := by
  refine ⟨fun i m H => m = xs.length - i ∧ i ≤ xs.length ∧ J i H, ⟨xs.length, by simp, Nat.zero_le _, first⟩, ?_⟩
  rintro i m H ⟨rfl, le, j⟩
  have sq := still i H le j
  rcases Nat.lt_or_ge i xs.length with lt | ge
  · refine .inr ⟨⟨xs, xs[i], sq, by simp [lt]⟩, J (i + 1), fun H' j' => ⟨xs.length - (i + 1), by omega, rfl, lt, j'⟩, fun y H' yl => ?_⟩
    obtain ⟨T, x, rfl, hT, rfl, e⟩ := yl
    exact turn i x H T (e xs sq) j hT
  · obtain rfl : i = xs.length := by omega
    exact .inl ⟨⟨xs, sq, rfl⟩, last H j⟩
/-- a frame as it is told, as data -/
def frDat (f : Fr) : PyData := .tuple [.tuple (pds f.keys), .int (f.days : Int), .int (f.turns : Int)]
theorem frDat_eqv (f g : Fr) : PyData.eqv (frDat f) (frDat g) = decide ((f.keys, f.days, f.turns) = (g.keys, g.days, g.turns)) := by
  have e : PyData.eqv (frDat f) (frDat g) = (PyData.eqvAll (pds f.keys) (pds g.keys) && (((f.days : Int) == (g.days : Int)) && (((f.turns : Int) == (g.turns : Int)) && true))) := by simp only [frDat, PyData.eqv, PyData.eqvAll]
  rw [e, eqv_strs, Bool.eq_iff_iff]
  simp only [Bool.and_eq_true, decide_eq_true_eq, beq_iff_eq, Prod.mk.injEq, and_true]
  constructor
  · rintro ⟨a, b, c⟩
    exact ⟨a, by omega, by omega⟩
  · rintro ⟨a, b, c⟩
    exact ⟨a, by omega, by omega⟩
theorem frDat_shaped {f : Fr} (h : ∀ x ∈ f.keys, PyData.strOk x = true) : SeqAt.shaped (frDat f) = true := by
  have h1 := can_strs f.keys h
  have h2 := dep_strs f.keys
  have h3 : PyData.depth (frDat f) ≤ 64 := by
    simp only [frDat, PyData.depth, PyData.depthAll]
    omega
  show (PyData.canLay0 (frDat f) && decide (PyData.depth (frDat f) ≤ 64)) = true
  rw [Bool.and_eq_true]
  exact ⟨by simp only [frDat, PyData.canLay0, PyData.canLayAll0, Bool.and_true]; exact h1, decide_eq_true h3⟩
/-- the told tuple at q -/
def ToldAt (H : Hp) (q : Addr) (f : Fr) : Prop := ∃ u, H q = some (.tup [.ref u, .int (f.days : Int), .int (f.turns : Int)]) ∧ H u = some (.tup (f.keys.map V.str))
theorem ToldAt.dp {K : PySem.W.Frag} {H : Hp} {q : Addr} {f : Fr} (h : ToldAt H q f) : Dp K H (.ref q) (frDat f) := by
  obtain ⟨u, e1, e2⟩ := h
  exact .tup (SqT.of e1) (.cons (.tup (SqT.of e2) (dp_strs _)) (.cons (.int _) (.cons (.int _) .nil)))
theorem ToldAt.exd {H H' : Hp} {q : Addr} {f : Fr} (h : ToldAt H q f) (x : Exd H H') : ToldAt H' q f := by
  obtain ⟨u, e1, e2⟩ := h
  exact ⟨u, x _ _ e1, x _ _ e2⟩
theorem ToldAt.nws {H H' : Hp} {q : Addr} {f : Fr} {Ps : List Addr} (h : ToldAt H q f) (x : Nws Ps H H') : ToldAt H' q f := by
  obtain ⟨u, e1, e2⟩ := h
  exact ⟨u, x.tup e1, x.tup e2⟩
end LL
namespace LL
open PySem PySem.Spec PyProof.Rows L2
/-! ### texts by their signs -/
def ofC (cs : List Nat) : Str := ⟨cs.toArray⟩
theorem ofC_inj {a b : List Nat} (h : ofC a = ofC b) : a = b := by
  have : a.toArray = b.toArray := congrArg Str.cps h
  simpa using congrArg Array.toList this
theorem ofC_cps (a : List Nat) : (ofC a).cps.toList = a := by simp [ofC]
theorem ofC_len (a : List Nat) : (ofC a).length = a.length := by
  show a.toArray.size = a.length
  simp
theorem ofC_app (a b : List Nat) : ofC a ++ ofC b = ofC (a ++ b) := by
  show (⟨a.toArray ++ b.toArray⟩ : Str) = ⟨(a ++ b).toArray⟩
  simp
theorem ofC_cut (a : List Nat) (k : Nat) : cutS (ofC a) none (some (k : Int)) = ofC (a.take k) := by
  unfold cutS
  rw [ofC_cps, ofC_len]
  have s1 : HT.sIx a.length 0 none = 0 := rfl
  rw [s1, HT.sIx_nat, List.drop_zero, Nat.sub_zero]
  show ofC _ = ofC _
  congr 1
  rcases Nat.le_total k a.length with h | h
  · rw [Nat.min_eq_left h]
  · rw [Nat.min_eq_right h, List.take_of_length_le (Nat.le_refl _), List.take_of_length_le h]
theorem ofC_joinS : ∀ cs : List Nat, Str.join "" (cs.map fun c => ofC [c]) = ofC cs
  | [] => rfl
  | [c] => rfl
  | c :: d :: cs => by
    have ih := ofC_joinS (d :: cs)
    show ofC [c] ++ "" ++ Str.join "" ((d :: cs).map fun c => ofC [c]) = _
    rw [ih]
    have : ofC [c] ++ ("" : Str) = ofC [c] := by rfl
    rw [this, ofC_app]
    rfl
theorem ofC_join (cs : List Nat) : Txt.join "" (cs.map fun c => ofC [c]) = ofC cs := (TL.join_eq _ _).trans (ofC_joinS cs)
/-! ### the law's names: a letter, then nothing, or a z or q and more -/
def low (c : Nat) : Prop := 97 ≤ c ∧ c < 123
theorem low_in {c : Nat} (h : low c) : c ∈ ("abcdefghijklmnopqrstuvwxyz" : Str).cps.toList := by
  have all : ∀ c, c < 123 → 97 ≤ c → c ∈ ("abcdefghijklmnopqrstuvwxyz" : Str).cps.toList := by decide +kernel
  exact all c h.2 h.1
theorem let_at {i : Nat} (h : i < 26) : atI ("abcdefghijklmnopqrstuvwxyz" : Str).cps.toList (i : Int) = some (97 + i) := by
  refine atI_nat ?_
  have all : ∀ i, i < 26 → ("abcdefghijklmnopqrstuvwxyz" : Str).cps.toList[i]? = some (97 + i) := by decide +kernel
  exact all i h
/-- such a name's signs -/
structure Nm (cs : List Nat) : Prop where
  low : ∀ c ∈ cs, low c
  one : 1 ≤ cs.length
  eight : cs.length ≤ 8
  two : ∀ c, cs[1]? = some c → c = 122 ∨ c = 113
/-- the i-th letter's place -/
def lx (s k : Nat) : Nat := 97 + (s + k) % 26
theorem lx_low (s k : Nat) : low (lx s k) := by
  unfold low lx
  omega
/-- the first kind -/
def nmA (s : Nat) (T : List Nat) (k : Nat) : List Nat := lx s (k / 6) :: 122 :: T.take (k % 6)
theorem nmA_ok {s k : Nat} {T : List Nat} (h : ∀ c ∈ T, low c) : Nm (nmA s T k) where
  low := fun c hc => by
    rcases List.mem_cons.mp hc with rfl | hc
    · exact lx_low _ _
    · rcases List.mem_cons.mp hc with rfl | hc
      · exact ⟨by decide, by decide⟩
      · exact h c (List.mem_of_mem_take hc)
  one := by simp [nmA]
  eight := by
    show (T.take (k % 6)).length + 1 + 1 ≤ 8
    rw [List.length_take]
    omega
  two := fun c hc => .inl (by
    have : some 122 = some c := hc
    exact (Option.some.inj this).symm)
theorem nmA_len {s k : Nat} {T : List Nat} (hT : T.length = 7) : (nmA s T k).length = 2 + k % 6 := by
  show (T.take (k % 6)).length + 1 + 1 = _
  rw [List.length_take]
  omega
theorem nmA_apart {s j k : Nat} {T : List Nat} (hT : T.length = 7) (h : j < k) (hk : k < 12) : nmA s T j ≠ nmA s T k := fun e => by
  have l := congrArg List.length e
  rw [nmA_len hT, nmA_len hT] at l
  have f : lx s (j / 6) = lx s (k / 6) := by
    injection e
  unfold lx at f
  omega
/-- the second kind -/
def nmB (s k : Nat) (U : List Nat) : List Nat := lx s (7 * k) :: U
theorem nmB_ok {s k : Nat} {U : List Nat} (h : ∀ c ∈ U, low c) (l : U.length ≤ 7) (z : ∀ c, U[0]? = some c → c = 122 ∨ c = 113) : Nm (nmB s k U) where
  low := fun c hc => by
    rcases List.mem_cons.mp hc with rfl | hc
    · exact lx_low _ _
    · exact h c hc
  one := by simp [nmB]
  eight := by
    show U.length + 1 ≤ 8
    omega
  two := fun c hc => z c hc
theorem nmB_apart {s j k : Nat} {U W : List Nat} (h : j < k) (hk : k < 12) : nmB s j U ≠ nmB s k W := fun e => by
  have f : lx s (7 * j) = lx s (7 * k) := by
    injection e
  unfold lx at f
  omega
/-- an object that is new since H is changed -/
theorem Kept.put {a p : Addr} {H H1 : Hp} {u : HO} (x : Kept a H H1) (hp : H p = none) (n : p ≠ a) : Kept a H (L2.upd H1 p u) := by
  obtain ⟨⟨o, e, b⟩, old⟩ := x
  exact ⟨⟨o, by rw [upd_ne n.symm]; exact e, b⟩, fun c v m q => by rw [upd_ne (ne_of_none q hp)]; exact old c v m q⟩
end LL
namespace LL
open PySem PySem.Spec PyProof.Rows L2
/-! ### a box and tables change, the rest is kept -/
structure Kbs (a : Addr) (Ps : List Addr) (H H' : Hp) : Prop where
  box : ∃ o, H' a = some o ∧ BoxO o
  tab : ∀ P ∈ Ps, GxR.TabG H' P
  old : ∀ b o, b ≠ a → b ∉ Ps → H b = some o → H' b = some o
theorem box_tabs {a : Addr} {Ps : List Addr} {H : Hp} (b : ∃ o, H a = some o ∧ BoxO o) (t : ∀ P ∈ Ps, GxR.TabG H P) : a ∉ Ps := fun m => box_tab b (t a m) rfl
theorem Kbs.refl {a : Addr} {Ps : List Addr} {H : Hp} (b : ∃ o, H a = some o ∧ BoxO o) (t : ∀ P ∈ Ps, GxR.TabG H P) : Kbs a Ps H H := ⟨b, t, fun _ _ _ _ e => e⟩
theorem Kbs.kept {a : Addr} {Ps : List Addr} {H H1 H2 : Hp} (x : Kbs a Ps H H1) (y : Kept a H1 H2) : Kbs a Ps H H2 := ⟨y.box, fun P hP => y.tab x.box (x.tab P hP), fun b o n m e => y.old b o n (x.old b o n m e)⟩
theorem Kbs.nws {a : Addr} {Ps : List Addr} {H H1 H2 : Hp} (x : Kbs a Ps H H1) (y : Nws Ps H1 H2) : Kbs a Ps H H2 := by
  have n := box_tabs x.box x.tab
  obtain ⟨o, e, b⟩ := x.box
  exact ⟨⟨o, y.old a o n e, b⟩, y.tab, fun c u m k q => y.old c u k (x.old c u m k q)⟩
theorem Kbs.exd {a : Addr} {Ps : List Addr} {H H1 H2 : Hp} (x : Kbs a Ps H H1) (y : Exd H1 H2) : Kbs a Ps H H2 := x.kept (y.kept x.box)
theorem Kbs.trans {a : Addr} {Ps : List Addr} {H H1 H2 : Hp} (x : Kbs a Ps H H1) (y : Kbs a Ps H1 H2) : Kbs a Ps H H2 := ⟨y.box, y.tab, fun b o n m e => y.old b o n m (x.old b o n m e)⟩
theorem Kbs.new {a p : Addr} {Ps : List Addr} {H H1 : Hp} {u : HO} (x : Kbs a Ps H H1) (hp : H1 p = none) : Kbs a Ps H (L2.upd H1 p u) := x.exd ((Exd.refl _).new hp)
theorem Kbs.toNws {a : Addr} {Ps : List Addr} {H0 H H' : Hp} (x : Kbs a Ps H H') (n : Nws Ps H0 H) (h : H0 a = none) : Nws Ps H0 H' :=
  ⟨n.was, x.tab, fun c o m e => x.old c o (fun z => by rw [z, h] at e; cases e) m (n.old c o m e)⟩
theorem Kbs.get {a b : Addr} {Ps : List Addr} {H H' : Hp} {o : HO} (x : Kbs a Ps H H') (t : ∀ P ∈ Ps, GxR.TabG H P) (n : b ≠ a) (e : H b = some o) (no : ∀ q, o ≠ .tbl q) : H' b = some o := x.old b o n (tabs_ne t e no) e
theorem Kbs.lst {a b : Addr} {Ps : List Addr} {H H' : Hp} {xs : List V} (x : Kbs a Ps H H') (t : ∀ P ∈ Ps, GxR.TabG H P) (n : b ≠ a) (e : H b = some (.lst xs)) : H' b = some (.lst xs) := x.get t n e (fun q z => by cases z)
theorem FrameAt.kbs {C p a : Addr} {H H' : Hp} {f : Fr} {Ps : List Addr} (h : FrameAt C H p f) (b : ∃ o, H a = some o ∧ BoxO o) (t : ∀ P ∈ Ps, GxR.TabG H P) (x : Kbs a Ps H H') : FrameAt C H' p f := by
  obtain ⟨dx, d, e1, e2⟩ := h
  obtain ⟨o, eb, x0, y0, z0, rfl, _⟩ := b
  exact ⟨dx, d, x.get t (fun z => by rw [z, eb] at e1; cases e1) e1 (fun q z => by cases z), x.get t (fun z => by rw [z, eb] at e2; cases e2) e2 (fun q z => by cases z)⟩
theorem Kbs.free {a b : Addr} {Ps : List Addr} {H H' : Hp} (x : Kbs a Ps H H') (e : H' b = none) : H b = none := by
  cases q : H b with
  | none => rfl
  | some o =>
    by_cases z : b = a
    · obtain ⟨o', e', _⟩ := x.box
      rw [z, e'] at e
      cases e
    · by_cases z2 : b ∈ Ps
      · obtain ⟨ps, e2, _⟩ := x.tab b z2
        rw [e2] at e
        cases e
      · rw [x.old b o z z2 q] at e
        cases e
/-! ### what repr asks of names -/
theorem sm_str {z : Str} (h : PyData.strOk z = true) : Sm (.str z) 0 z.cps.size :=
  ⟨by simp only [PyData.canLay0]; exact h, by simp only [PyData.showable], by simp only [PyData.intsShort], by simp only [PyData.depth]; exact Nat.le_refl _, by simp only [PyData.weight]; exact Nat.le_refl _⟩
theorem sm_frame {f : Fr} (h : ∀ z ∈ f.keys, PyData.strOk z = true ∧ z.cps.size ≤ 8) (l : f.keys.length ≤ 12) (d : f.days ≤ 400) (u : f.turns ≤ 400) : Sm (frDat f) 60 1048576 := by
  have a := (smAll_of (ds := pds f.keys) (k := 0) (W := 8) fun x hx => by
    obtain ⟨z, hz, rfl⟩ := List.mem_map.mp hx
    exact (sm_str (h z hz).1).mono (Nat.le_refl _) (h z hz).2).tuple
  have ln : (pds f.keys).length = f.keys.length := List.length_map _
  have b := (SmAll.cons a (SmAll.cons (sm_nat (n := f.days) (by omega)) (SmAll.cons (sm_nat (n := f.turns) (by omega)) smAll_nil))).tuple
  refine b.mono (by decide) ?_
  rw [ln]
  omega
end LL
namespace LL
open PySem PySem.Spec PyProof.Rows L2
/-! ### lists of boxes, in the heap -/
abbrev SBx := BoxT Str
def bxV (b : SBx) : List V := [.str b.1, .int (b.2.1 : Int), .int (b.2.2.1 : Int), .int (b.2.2.2.1 : Int), .int (b.2.2.2.2 : Int)]
inductive BxsAt (H : Hp) : List Addr → List SBx → Prop
  | nil : BxsAt H [] []
  | cons {q : Addr} {b : SBx} {qs : List Addr} {bs : List SBx} (h : H q = some (.tup (bxV b))) (t : BxsAt H qs bs) : BxsAt H (q :: qs) (b :: bs)
theorem BxsAt.len {H : Hp} {qs : List Addr} {bs : List SBx} (h : BxsAt H qs bs) : qs.length = bs.length := by
  induction h with
  | nil => rfl
  | cons h t ih => rw [List.length_cons, List.length_cons, ih]
theorem BxsAt.app {H : Hp} {qs ps : List Addr} {bs cs : List SBx} (h : BxsAt H qs bs) (g : BxsAt H ps cs) : BxsAt H (qs ++ ps) (bs ++ cs) := by
  induction h with
  | nil => exact g
  | cons h t ih => exact .cons h ih
theorem BxsAt.get {H : Hp} {qs : List Addr} {bs : List SBx} (h : BxsAt H qs bs) {i : Nat} {q : Addr} (e : qs[i]? = some q) : ∃ b, bs[i]? = some b ∧ H q = some (.tup (bxV b)) := by
  induction h generalizing i with
  | nil => cases e
  | @cons q' b qs bs h t ih =>
    cases i with
    | zero => cases e; exact ⟨_, rfl, h⟩
    | succ i => exact ih e
theorem BxsAt.put {H H' : Hp} {qs : List Addr} {bs : List SBx} (h : BxsAt H qs bs) (k : ∀ q xs, H q = some (.tup xs) → H' q = some (.tup xs)) : BxsAt H' qs bs := by
  induction h with
  | nil => exact .nil
  | cons h t ih => exact .cons (k _ _ h) ih
def BxL (H : Hp) (a : Addr) (bs : List SBx) : Prop := ∃ qs : List Addr, H a = some (.lst (qs.map V.ref)) ∧ BxsAt H qs bs
theorem BxL.keep {a : Addr} {H H' : Hp} {bs : List SBx} (k : Keep H H') (h : BxL H a bs) : BxL H' a bs := by
  obtain ⟨qs, e, p⟩ := h
  exact ⟨qs, k _ _ (fun q z => by cases z) e, p.put fun q xs e => k _ _ (fun q z => by cases z) e⟩
theorem BxL.exd {a : Addr} {H H' : Hp} {bs : List SBx} (x : Exd H H') (h : BxL H a bs) : BxL H' a bs := h.keep fun b o _ e => x b o e
theorem BxL.nw {P a : Addr} {H H' : Hp} {bs : List SBx} (x : Nw P H H') (h : BxL H a bs) : BxL H' a bs := h.keep x.keep
/-- as data -/
def bxDat (b : SBx) : PyData := .tuple [.str b.1, .int (b.2.1 : Int), .int (b.2.2.1 : Int), .int (b.2.2.2.1 : Int), .int (b.2.2.2.2 : Int)]
def bxsDat (bs : List SBx) : PyData := .list (bs.map bxDat)
theorem bxDat_dp {K : PySem.W.Frag} {H : Hp} {q : Addr} {b : SBx} (h : H q = some (.tup (bxV b))) : Dp K H (.ref q) (bxDat b) :=
  .tup (SqT.of h) (.cons (.str _) (.cons (.int _) (.cons (.int _) (.cons (.int _) (.cons (.int _) .nil)))))
theorem BxsAt.dp {K : PySem.W.Frag} {H : Hp} {qs : List Addr} {bs : List SBx} (h : BxsAt H qs bs) : DpAll K H (qs.map V.ref) (bs.map bxDat) := by
  induction h with
  | nil => exact .nil
  | cons h t ih => exact .cons (bxDat_dp h) ih
theorem BxL.dp {K : PySem.W.Frag} {H : Hp} {a : Addr} {bs : List SBx} (h : BxL H a bs) : Dp K H (.ref a) (bxsDat bs) := by
  obtain ⟨qs, e, p⟩ := h
  exact .lst (SqL.of e) p.dp
theorem intEq (a b : Nat) : PyData.eqv (.int (a : Int)) (.int (b : Int)) = decide (a = b) := by
  simp only [PyData.eqv]
  first
    | exact decide_eq_decide.mpr ⟨fun z => Int.ofNat.inj z, fun z => congrArg _ z⟩
    | (rw [Bool.eq_iff_iff]; simp)
theorem strEq (a b : Str) : PyData.eqv (.str a) (.str b) = decide (a = b) := by
  simp only [PyData.eqv]
  try (rw [Bool.eq_iff_iff]; simp)
theorem bxDat_eqv (b c : SBx) : PyData.eqv (bxDat b) (bxDat c) = decide (b = c) := by
  obtain ⟨k, x, y, z, u⟩ := b
  obtain ⟨k', x', y', z', u'⟩ := c
  simp only [bxDat, PyData.eqv, PyData.eqvAll]
  rw [Bool.eq_iff_iff]
  simp [and_assoc]
  intro _
  omega
theorem bxDats_eqv : ∀ bs cs : List SBx, PyData.eqvAll (bs.map bxDat) (cs.map bxDat) = decide (bs = cs)
  | [], [] => by simp [PyData.eqvAll]
  | [], _ :: _ => by simp [PyData.eqvAll]
  | _ :: _, [] => by simp [PyData.eqvAll]
  | b :: bs, c :: cs => by
    simp only [List.map_cons, PyData.eqvAll, bxDat_eqv, bxDats_eqv bs cs]
    rw [Bool.eq_iff_iff]
    simp
theorem bxsDat_eqv (bs cs : List SBx) : PyData.eqv (bxsDat bs) (bxsDat cs) = decide (bs = cs) := by
  simp only [bxsDat, PyData.eqv]
  exact bxDats_eqv bs cs
theorem bxDats_lay {bs : List SBx} (h : ∀ b ∈ bs, PyData.strOk b.1 = true) : PyData.canLayAll0 (bs.map bxDat) = true := by
  induction bs with
  | nil => simp [PyData.canLayAll0]
  | cons b bs ih =>
    simp only [List.map_cons, PyData.canLayAll0, bxDat, PyData.canLay0, h b List.mem_cons_self, ih fun c hc => h c (List.mem_cons_of_mem _ hc), Bool.and_self]
theorem bxDats_depth (bs : List SBx) : PyData.depthAll (bs.map bxDat) ≤ 1 := by
  induction bs with
  | nil => simp [PyData.depthAll]
  | cons b bs ih =>
    simp only [List.map_cons, PyData.depthAll, bxDat, PyData.depth]
    first
      | omega
      | (simp; omega)
theorem bxDat_shaped {b : SBx} (h : PyData.strOk b.1 = true) : SeqAt.shaped (bxDat b) = true := by
  simp only [SeqAt.shaped, bxDat, PyData.canLay0, PyData.canLayAll0, PyData.depth, PyData.depthAll, h, Bool.and_self, Bool.true_and]
  decide
theorem bxsDat_shaped {bs : List SBx} (h : ∀ b ∈ bs, PyData.strOk b.1 = true) : SeqAt.shaped (bxsDat bs) = true := by
  have d := bxDats_depth bs
  simp only [SeqAt.shaped, bxsDat, PyData.canLay0, PyData.depth, bxDats_lay h, Bool.true_and]
  exact decide_eq_true (by omega)
end LL
namespace LL
open PySem PySem.Spec PyProof.Rows L2
theorem str_declines {b : Str} {u : Tok} {l : Addr} : Meets (Builtin.«str.__eq__» { pos := [.str b u, .ref l] }) fun _ R s =>
    (∃ o es ep, s.heap.get? l = some o ∧ o.data = .dict es ep) ∧ R (.ok (.ret .notImplemented)) s := by
  rintro prog w A R s ⟨⟨o, es, ep, e, d⟩, h⟩
  unfold Builtin.«str.__eq__» Builtin.Str.strCompare
  refine wpAny_bind ?_
  unfold Builtin.Str.strSlot
  refine wpAny_bind ?_
  unfold slotArgs
  refine wpAny_ite_false (by rfl) ?_
  refine wpAny_ite_false (by rfl) (wpAny_pure ?_)
  refine wpAny_bind (wpAny_pure (wpAny_pure ?_))
  refine wpAny_bind (m := asStr? (.ref l)) ?_
  unfold asStr?
  refine wpAny_bind (wpAny_load e ?_)
  rw [d]
  refine wpAny_pure ?_
  refine wpAny_bind (wpAny_rule ?_)
  exact wpAny_pure h
theorem dict_gives {d : Addr} {x : Str} {t : Tok} : Gives (Builtin.«dict.__eq__» { pos := [.ref d, .str x t] }) (Made.val .notImplemented) := Gives.of_wp fun M A E s Q h => by
  refine wpAny_bind (m := Builtin.Dict.dictSlotArgs "__eq__" _) ?_
  unfold Builtin.Dict.dictSlotArgs
  refine wpAny_bind ?_
  unfold Builtin.Dict.notOrdered
  refine wpAny_ite_false (by decide) (wpAny_pure ?_)
  refine wpAny_bind ?_
  unfold slotArgs
  refine wpAny_ite_false (by rfl) ?_
  refine wpAny_ite_false (by rfl) (wpAny_pure ?_)
  refine wpAny_pure ?_
  refine wpAny_bind (wpAny_isInstance_val (T := "str") (b := false) rfl (by rfl) ?_)
  refine wpAny_bind (wpAny_rule ?_)
  exact wpAny_pure ⟨_, rfl, h⟩
theorem eq_str_dict {prog : Program} {w : World} {A : Around} {E : Value → Shared → Prop} {s : Shared} {Q : Value → Shared → Prop} {d : Addr} {o : Obj} {es : Array DictEntry} {ep : Nat} {x : Str} {t : Tok}
    (e : s.heap.get? d = some o) (hc : o.cls = .type "dict") (hd : o.data = .dict es ep) (hu : A.units < cLine) (h : Q (.bool false) s) : wpAny (model prog w) A (compareOp .Eq (.str x t) (.ref d)) Q E s := by
  have ta : s.TypeIs (.str x t) "str" := rfl
  have tb : s.TypeIs (.ref d) "dict" := ⟨o, e, hc⟩
  show wpAny _ A (richCompare .Eq _ _) Q E s
  unfold richCompare
  refine wpAny_holding (wpAny_bind (wpAny_cRoomFor_or (.inr hu) ?_))
  rw [Shared.TypeIs.oneThing_none ta]
  refine wpAny_bind (wpAny_typeOf ta (wpAny_bind (wpAny_typeOf tb ?_)))
  have ne : (Value.type "str" != Value.type "dict") = true := by decide
  rw [if_pos ne]
  have sub : isSubtype (Value.type "dict") (Value.type "str") = pure false := rfl
  rw [sub]
  refine wpAny_bind (wpAny_pure ?_)
  simp only [Bool.false_eq_true, if_false]
  refine wpAny_bind ?_
  refine wpAny_tryCompare_declines ta F.slot_str_eq (call_meets F.slot_str_eq ta F.entry_str_eq (F.args_str_eq_2 _ _) str_declines ⟨⟨o, es, ep, e, hd⟩, rfl, ?_⟩)
  simp only [Bool.not_false, if_true]
  refine wpAny_bind ?_
  refine wpAny_tryCompare_declines tb F.slot_dict_eq_refl (call_gives F.slot_dict_eq_refl tb F.entry_dict_eq (F.args_dict_eq_2 _ _) dict_gives ⟨rfl, ?_⟩)
  refine wpAny_bind (wpAny_rule ?_)
  exact wpAny_bind (wpAny_pure (wpAny_pure h))
/-- a thing that texts are compared with: for each text whether it is equal -/
inductive KeyT (K : PySem.W.Frag) (H : Hp) : V → (Str → Bool) → Prop
  | dat {y : V} {f : Str → Bool} {e : PyData} (d : Dp K H y e) (sh : SeqAt.shaped e = true) (h : ∀ k, PyData.eqv (.str k) e = f k) : KeyT K H y f
  | dic {a : Addr} {kvs : List (Key × V)} (h : H a = some (.dK kvs)) : KeyT K H (.ref a) (fun _ => false)
theorem strShaped {k : Str} (h : PyData.strOk k = true) : SeqAt.shaped (.str k) = true := by
  simp only [SeqAt.shaped, PyData.canLay0, PyData.depth, h, Bool.true_and]
  exact decide_eq_true (Nat.zero_le _)
def rEqT (K : PySem.W.Frag) : R2 := fun x y H Q => ∃ k f, x = .str k ∧ PyData.strOk k = true ∧ KeyT K H y f ∧ Q (.bl (f k)) H
theorem op_eqT {X : Cx} (hu : X.A.units + 64 < cLine) : OpR X (compareOp .Eq) (rEqT X.K) := by
  intro pins s σ H x y v u Q I rv ru ⟨k, f, e, hk, kt, q⟩
  subst e
  cases kt with
  | dat d sh h => exact op_eqD hu pins s σ H _ _ v u Q I rv ru ⟨_, _, .str k, d, strShaped hk, sh, by rw [h]; exact q⟩
  | dic h =>
    obtain ⟨z, lo, vs, rel, dd⟩ := dk_rd I.hok (.inl h)
    obtain ⟨o, es, ep, e, ex, d, _⟩ := dd
    obtain ⟨t, rfl⟩ := rv
    obtain rfl : u = Value.ref _ := ru
    exact eq_str_dict e ex.1 d (by omega) ⟨.bl false, H, I, rfl, q⟩
theorem KeyT.text {K : PySem.W.Frag} {H : Hp} {k : Str} (h : PyData.strOk k = true) : KeyT K H (.str k) (fun z => decide (z = k)) :=
  .dat (.str k) (strShaped h) fun z => strEq z k
theorem op_eqTK {X : Cx} {K : PySem.W.Frag} (h : X.K = K) (hu : X.A.units + 64 < cLine) : OpR X (compareOp .Eq) (rEqT K) := by
  subst h
  exact op_eqT hu
theorem KeyT.keep {K : PySem.W.Frag} {H H' : Hp} {y : V} {f : Str → Bool} (k : Keep H H') (dk : ∀ {y e}, Dp K H y e → Dp K H' y e) (h : KeyT K H y f) : KeyT K H' y f := by
  cases h with
  | dat d sh h => exact .dat (dk d) sh h
  | dic h => exact .dic (k _ _ (fun q z => by cases z) h)
theorem op_eqDK {X : Cx} {K : PySem.W.Frag} (h : X.K = K) (hu : X.A.units + 64 < cLine) : OpR X (compareOp .Eq) (rEqD K) := by
  subst h
  exact op_eqD hu
theorem op_neDK {X : Cx} {K : PySem.W.Frag} (h : X.K = K) (hu : X.A.units + 64 < cLine) : OpR X (compareOp .NotEq) (rNeD K) := by
  subst h
  exact op_neD hu
theorem dict_gives_ne {d : Addr} {x : Int} {t : Tok} : Gives (Builtin.«dict.__ne__» { pos := [.ref d, .int x t] }) (Made.val .notImplemented) := Gives.of_wp fun M A E s Q h => by
  refine wpAny_bind (m := Builtin.Dict.dictSlotArgs "__ne__" _) ?_
  unfold Builtin.Dict.dictSlotArgs
  refine wpAny_bind ?_
  unfold Builtin.Dict.notOrdered
  refine wpAny_ite_false (by decide) (wpAny_pure ?_)
  refine wpAny_bind ?_
  unfold slotArgs
  refine wpAny_ite_false (by rfl) ?_
  refine wpAny_ite_false (by rfl) (wpAny_pure ?_)
  refine wpAny_pure ?_
  refine wpAny_bind (wpAny_isInstance_val (T := "int") (b := false) rfl (by rfl) ?_)
  refine wpAny_bind (wpAny_rule ?_)
  exact wpAny_pure ⟨_, rfl, h⟩
theorem int_declines {b : Int} {u : Tok} {l : Addr} : Meets (Builtin.«int.__ne__» { pos := [.int b u, .ref l] }) fun _ R s =>
    (∃ o es ep, s.heap.get? l = some o ∧ o.data = .dict es ep) ∧ R (.ok (.ret .notImplemented)) s := by
  rintro prog w A R s ⟨⟨o, es, ep, e, d⟩, h⟩
  unfold Builtin.«int.__ne__»
  refine wpAny_bind ?_
  unfold slotArgs
  refine wpAny_ite_false (by rfl) ?_
  refine wpAny_ite_false (by rfl) (wpAny_pure ?_)
  refine wpAny_bind (m := Builtin.Int.intOfSelf (.int b u)) (wpAny_pure ?_)
  refine wpAny_bind (m := asInt? (.ref l)) ?_
  unfold asInt?
  refine wpAny_bind (wpAny_load e ?_)
  rw [d]
  refine wpAny_pure ?_
  refine wpAny_bind (wpAny_rule ?_)
  exact wpAny_pure h
theorem ne_dict_int {prog : Program} {w : World} {A : Around} {E : Value → Shared → Prop} {s : Shared} {Q : Value → Shared → Prop} {d : Addr} {o : Obj} {es : Array DictEntry} {ep : Nat} {x : Int} {t : Tok}
    (e : s.heap.get? d = some o) (hc : o.cls = .type "dict") (hd : o.data = .dict es ep) (hu : A.units < cLine) (h : Q (.bool true) s) : wpAny (model prog w) A (compareOp .NotEq (.ref d) (.int x t)) Q E s := by
  have ta : s.TypeIs (.int x t) "int" := rfl
  have tb : s.TypeIs (.ref d) "dict" := ⟨o, e, hc⟩
  show wpAny _ A (richCompare .NotEq _ _) Q E s
  unfold richCompare
  refine wpAny_holding (wpAny_bind (wpAny_cRoomFor_or (.inr hu) ?_))
  rw [Shared.TypeIs.oneThing_none tb]
  refine wpAny_bind (wpAny_typeOf tb (wpAny_bind (wpAny_typeOf ta ?_)))
  have ne : (Value.type "dict" != Value.type "int") = true := by decide
  rw [if_pos ne]
  have sub : isSubtype (Value.type "int") (Value.type "dict") = pure false := rfl
  rw [sub]
  refine wpAny_bind (wpAny_pure ?_)
  simp only [Bool.false_eq_true, if_false]
  refine wpAny_bind ?_
  refine wpAny_tryCompare_declines tb F.slot_dict_ne (call_gives F.slot_dict_ne tb F.entry_dict_ne (F.args_dict_ne_2 _ _) dict_gives_ne ⟨rfl, ?_⟩)
  simp only [Bool.not_false, if_true]
  refine wpAny_bind ?_
  refine wpAny_tryCompare_declines ta F.slot_int_ne_refl (call_meets F.slot_int_ne_refl ta F.entry_int_ne (F.args_int_ne_2 _ _) int_declines ⟨⟨o, es, ep, e, hd⟩, rfl, ?_⟩)
  refine wpAny_bind (wpAny_rule ?_)
  exact wpAny_bind (wpAny_pure (wpAny_pure h))
/-- a thing, and whether it is another one than a number -/
inductive NeN (K : PySem.W.Frag) (H : Hp) (n : Int) : V → Bool → Prop
  | dat {y : V} {e : PyData} (d : Dp K H y e) (sh : SeqAt.shaped e = true) : NeN K H n y (!PyData.eqv e (.int n))
  | dic {a : Addr} {kvs : List (Key × V)} (h : H a = some (.dK kvs)) : NeN K H n (.ref a) true
def rNeN (K : PySem.W.Frag) : R2 := fun x y H Q => ∃ n b, y = .int n ∧ SeqAt.shaped (.int n) = true ∧ NeN K H n x b ∧ Q (.bl b) H
theorem op_neN {X : Cx} (hu : X.A.units + 64 < cLine) : OpR X (compareOp .NotEq) (rNeN X.K) := by
  intro pins s σ H x y v u Q I rv ru ⟨n, b, e, sn, kt, q⟩
  subst e
  cases kt with
  | dat d sh => exact op_neD hu pins s σ H _ _ v u Q I rv ru ⟨_, _, d, .int n, sh, sn, q⟩
  | dic h =>
    obtain ⟨z, lo, vs, rel, dd⟩ := dk_rd I.hok (.inl h)
    obtain ⟨o, es, ep, e, ex, d, _⟩ := dd
    obtain ⟨t, rfl⟩ := ru
    obtain rfl : v = Value.ref _ := rv
    exact ne_dict_int e ex.1 d (by omega) ⟨.bl true, H, I, rfl, q⟩
theorem call_list_ofK {X : Cx} {K : PySem.W.Frag} (h : X.K = K) : CallR X (.type "list") (fun xs H Q => ∃ p ys, xs = [V.ref p] ∧ (SqL K H p ys ∨ SqT K H p ys) ∧ ∀ l, H l = none → Q (V.ref l) (upd H l (.lst ys))) := by
  subst h
  exact call_list_of
end LL
namespace LL
open PySem PySem.Spec PyProof.Rows L2
/-! ### data that may hold {}: repr -/
mutual
inductive Dz (H : Hp) : V → PyData → Prop
  | non : Dz H .non .none
  | bl (b : Bool) : Dz H (.bl b) (.bool b)
  | int (i : Int) : Dz H (.int i) (.int i)
  | str (x : Str) : Dz H (.str x) (.str x)
  | lst {a : Addr} {xs : List V} {ds : List PyData} : H a = some (.lst xs) → DzAll H xs ds → Dz H (.ref a) (.list ds)
  | tup {a : Addr} {xs : List V} {ds : List PyData} : H a = some (.tup xs) → DzAll H xs ds → Dz H (.ref a) (.tuple ds)
  | dct {a : Addr} : H a = some (.dK []) → Dz H (.ref a) (.dict [])
inductive DzAll (H : Hp) : List V → List PyData → Prop
  | nil : DzAll H [] []
  | cons {v : V} {vs : List V} {d : PyData} {ds : List PyData} : Dz H v d → DzAll H vs ds → DzAll H (v :: vs) (d :: ds)
end
mutual
theorem Dz.keep {H H' : Hp} (k : Keep H H') : ∀ (d : PyData) (v : V), Dz H v d → Dz H' v d
  | _, _, .non => .non
  | _, _, .bl b => .bl b
  | _, _, .int i => .int i
  | _, _, .str x => .str x
  | _, _, .lst h t => .lst (k _ _ (fun q z => by cases z) h) (DzAll.keep k _ _ t)
  | _, _, .tup h t => .tup (k _ _ (fun q z => by cases z) h) (DzAll.keep k _ _ t)
  | _, _, .dct h => .dct (k _ _ (fun q z => by cases z) h)
theorem DzAll.keep {H H' : Hp} (k : Keep H H') : ∀ (ds : List PyData) (vs : List V), DzAll H vs ds → DzAll H' vs ds
  | _, _, .nil => .nil
  | _, _, .cons h t => .cons (Dz.keep k _ _ h) (DzAll.keep k _ _ t)
end
section
variable {X : Cx} {pins : List (Addr × Obj)} {σ : L2.St} {H : Hp} {s : Shared}
mutual
theorem Dz.rep (I : Inv X pins σ H s) : ∀ (d : PyData) (v : V) (u : Value), Dz H v d → RelV v u → d.showable = true → d.shown.length ≤ sizeLine →
    ∃ as bs, Reads s.heap u d as ∧ ReadAtMost s.heap d.depth bs ∧ ReprK X.prog X.w bs s.heap d.depth u d.shown
  | .none, _, _, h, r, _, _ => by
    cases h
    cases r
    refine ⟨_, [], Reads.none, fun b hb => (nomatch hb), ?_⟩
    simp only [PyData.shown]
    exact .of_is ReprIs.none _ _ _
  | .bool b, _, _, h, r, _, _ => by
    cases h
    cases r
    refine ⟨_, [], Reads.bool b, fun b hb => (nomatch hb), ?_⟩
    simp only [PyData.shown]
    exact .of_is (ReprIs.bool b) _ _ _
  | .int i, _, _, h, r, sh, _ => by
    cases h
    obtain ⟨t, rfl⟩ := r
    refine ⟨_, [], Reads.int i t, fun b hb => (nomatch hb), ?_⟩
    simp only [PyData.shown]
    exact .of_is (ReprIs.int t (by simpa [PyData.showable] using sh)) _ _ _
  | .str x, _, _, h, r, _, z => by
    cases h
    obtain ⟨t, rfl⟩ := r
    refine ⟨_, [], Reads.str x t, fun b hb => (nomatch hb), ?_⟩
    simp only [PyData.shown]
    exact .of_is (ReprIs.str x t (by simpa only [PyData.shown] using z)) _ _ _
  | .list ds, _, _, h, r, sh, z => by
    cases h with
    | @lst a xs _ hs ha =>
      cases r
      obtain ⟨its, rv, ⟨o, n, ho, hc, _, hd⟩, _⟩ := I.list (SqL.of hs)
      have z2 : (listText (PyData.shownAll ds)).length ≤ sizeLine := by simpa only [PyData.shown] using z
      obtain ⟨as, bs, hr, most, hk⟩ := DzAll.rep I ds _ its ha rv (by simpa only [PyData.showable] using sh) fun t ht => Nat.le_trans (listText_mem_le ht) z2
      have rr := Reads.list ho hc hd hr
      have no := not_mem_of_deeper rr (by simp only [PyData.depth]; omega) most
      refine ⟨_, _ :: bs, rr, ReadAtMost.cons rr (Nat.le_refl _) (most.mono (by simp only [PyData.depth]; omega)), ?_⟩
      simp only [PyData.depth, PyData.shown]
      cases its with
      | nil =>
        have e0 : PyData.shownAll ds = [] := List.length_eq_zero_iff.mp hk.length_eq
        rw [e0, listText_nil]
        have := ReprK.listEmpty (prog := X.prog) (w := X.w) (as := a :: bs) (d := PyData.depthAll ds + 1) ho hc hd
        exact this
      | cons x l => exact ReprK.list ho hc hd no (by simpa using hk.length_eq) fun i y e => hk.item i y (by simpa using e)
  | .tuple ds, _, _, h, r, sh, z => by
    cases h with
    | tup hs ha =>
      cases r
      obtain ⟨its, rv, ⟨o, ho, hc, n, hd⟩, _⟩ := I.tuple (SqT.of hs)
      have z2 : (tupleText (PyData.shownAll ds)).length ≤ sizeLine := by simpa only [PyData.shown] using z
      obtain ⟨as, bs, hr, most, hk⟩ := DzAll.rep I ds _ its ha rv (by simpa only [PyData.showable] using sh) fun t ht => Nat.le_trans (tupleText_mem_le ht) z2
      have rr := Reads.tuple ho hc hd hr
      have no := not_mem_of_deeper rr (by simp only [PyData.depth]; omega) most
      refine ⟨_, _ :: bs, rr, ReadAtMost.cons rr (Nat.le_refl _) (most.mono (by simp only [PyData.depth]; omega)), ?_⟩
      simp only [PyData.depth, PyData.shown]
      exact ReprK.tuple ho hc hd no hk
  | .dict kvs, _, _, h, r, _, _ => by
    cases h with
    | dct hs =>
      cases r
      obtain ⟨z, lo, vs, rel, o, es, ep, h1, h2, h3, h4, h5, h6⟩ := dk_rd I.hok (.inl hs)
      cases rel
      have e0 : es.toList = [] := by
        cases q : es.toList with
        | nil => rfl
        | cons x xs =>
          rw [q] at h5
          cases h5
      have rr : Reads s.heap _ (.dict []) _ := Reads.dict (as := []) (bs := []) (kvs := []) h1 h2.1 h3 (by rw [e0]; exact ReadsAll.nil) (by rw [e0]; exact ReadsAll.nil)
      refine ⟨_, [_], rr, ReadAtMost.cons rr (Nat.le_refl _) (fun b hb => (nomatch hb)), ?_⟩
      have := ReprK.dict (prog := X.prog) (w := X.w) (as := []) (d := 0) (ps := []) h1 h2.1 h3 lo List.not_mem_nil (by rw [e0]; exact ReprEntriesK.nil)
      simpa only [PyData.depth, PyData.depthKv, PyData.shown, PyData.shownKv] using this
theorem DzAll.rep (I : Inv X pins σ H s) : ∀ (ds : List PyData) (vs : List V) (us : List Value), DzAll H vs ds → Vals vs us → PyData.showableAll ds = true → (∀ t ∈ PyData.shownAll ds, t.length ≤ sizeLine) →
    ∃ as bs, ReadsAll s.heap us ds as ∧ ReadAtMost s.heap (PyData.depthAll ds) bs ∧ ReprAllK X.prog X.w bs s.heap (PyData.depthAll ds) us (PyData.shownAll ds)
  | [], _, _, h, r, _, _ => by
    cases h
    cases r
    refine ⟨_, [], ReadsAll.nil, fun b hb => (nomatch hb), ?_⟩
    simp only [PyData.shownAll]
    exact .nil
  | d :: ds, _, _, h, r, sh, z => by
    cases h with
    | cons h1 h2 =>
      cases r with
      | cons r1 r2 =>
        simp only [PyData.showableAll, Bool.and_eq_true] at sh
        simp only [PyData.shownAll, List.mem_cons] at z
        obtain ⟨as, b1, q1, m1, k1⟩ := Dz.rep I d _ _ h1 r1 sh.1 (z _ (.inl rfl))
        obtain ⟨bs, b2, q2, m2, k2⟩ := DzAll.rep I ds _ _ h2 r2 sh.2 fun t ht => z t (.inr ht)
        refine ⟨_, b1 ++ b2, ReadsAll.cons q1 q2, ?_, ?_⟩
        · simp only [PyData.depthAll]
          exact (m1.mono (by omega)).append (m2.mono (by omega))
        · simp only [PyData.depthAll, PyData.shownAll]
          exact .cons ((k1.more fun b hb => List.mem_append_left _ hb).level_le (by omega)) (k2.more_le (fun b hb => List.mem_append_right _ hb) (by omega))
end
end
/-- what repr asks of such data -/
structure Sz (d : PyData) (k W : Nat) : Prop where
  sh : d.showable = true
  lv : d.leavesShort 60 = true
  dep : d.depth ≤ k
  wt : d.weight ≤ W
structure SzAll (ds : List PyData) (k W : Nat) : Prop where
  sh : PyData.showableAll ds = true
  lv : PyData.leavesShortAll 60 ds = true
  dep : PyData.depthAll ds ≤ k
  wt : PyData.weightAll ds ≤ W
theorem SzAll.cons {d : PyData} {ds : List PyData} {k l W U : Nat} (h : Sz d k W) (t : SzAll ds l U) : SzAll (d :: ds) (max k l) (W + 1 + U) := by
  refine ⟨?_, ?_, ?_, ?_⟩
  · simp only [PyData.showableAll, h.sh, t.sh, Bool.and_self]
  · simp only [PyData.leavesShortAll, h.lv, t.lv, Bool.and_self]
  · simp only [PyData.depthAll]
    have := h.dep
    have := t.dep
    omega
  · simp only [PyData.weightAll]
    have := h.wt
    have := t.wt
    omega
theorem szAll_nil : SzAll [] 0 0 := ⟨rfl, rfl, Nat.le_refl _, Nat.le_refl _⟩
theorem SzAll.list {ds : List PyData} {k W : Nat} (t : SzAll ds k W) : Sz (.list ds) (k + 1) W :=
  ⟨by simp only [PyData.showable]; exact t.sh, by simp only [PyData.leavesShort]; exact t.lv, by simp only [PyData.depth]; have := t.dep; omega, by simp only [PyData.weight]; exact t.wt⟩
theorem SzAll.tuple {ds : List PyData} {k W : Nat} (t : SzAll ds k W) : Sz (.tuple ds) (k + 1) W :=
  ⟨by simp only [PyData.showable]; exact t.sh, by simp only [PyData.leavesShort]; exact t.lv, by simp only [PyData.depth]; have := t.dep; omega, by simp only [PyData.weight]; exact t.wt⟩
theorem Sz.mono {d : PyData} {k l W U : Nat} (h : Sz d k W) (a : k ≤ l) (b : W ≤ U) : Sz d l U := ⟨h.sh, h.lv, Nat.le_trans h.dep a, Nat.le_trans h.wt b⟩
theorem SzAll.mono {d : List PyData} {k l W U : Nat} (h : SzAll d k W) (a : k ≤ l) (b : W ≤ U) : SzAll d l U := ⟨h.sh, h.lv, Nat.le_trans h.dep a, Nat.le_trans h.wt b⟩
theorem szAll_of {ds : List PyData} {k W : Nat} (h : ∀ d ∈ ds, Sz d k W) : SzAll ds k ((W + 1) * ds.length) := by
  induction ds with
  | nil => exact szAll_nil.mono (Nat.zero_le _) (Nat.zero_le _)
  | cons d ds ih =>
    refine (SzAll.cons (h d List.mem_cons_self) (ih fun y hy => h y (List.mem_cons_of_mem _ hy))).mono (by omega) ?_
    rw [List.length_cons, Nat.mul_succ]
    omega
/-- repr of such data -/
theorem call_reprZ {X : Cx} (guard : X.A.guards = some []) {k : Nat} (room : Room k X.A) : CallR X (.builtin "repr") (fun xs H Q => ∃ v d, xs = [v] ∧ Dz H v d ∧ isDisplay d = true ∧ Sz d 60 200000 ∧ Q (.str d.shown) H) := by
  intro pins s σ H xs us Q I r ⟨v, d, e, dp, disp, sz, q⟩
  subst e
  obtain ⟨u, rfl, r1⟩ := vals1 r
  have dep := sz.dep
  have len : d.shown.length ≤ sizeLine := by
    have h1 := PyData.shown_le 60 (by decide) d sz.lv
    have h2 := sz.wt
    have h3 := PySem.sizeLine_eq
    omega
  have run := room.un
  have fin : ∀ h' u tk, (∀ b o, s.heap.get? b = some o → h'.get? b = some o) → ∃ v' H', Inv X pins σ H' { s with heap := h', toks := tk } ∧ RelV v' (.str d.shown u) ∧ Q v' H' :=
    fun h' u tk keep => ⟨.str _, H, I.kept keep, ⟨_, rfl⟩, q⟩
  cases dp with
  | @lst a xs ds hs ha =>
    cases r1
    obtain ⟨its, rv, ⟨o, n, ho, hc, _, hd⟩, _⟩ := I.list (SqL.of hs)
    have z2 : (listText (PyData.shownAll ds)).length ≤ sizeLine := by simpa only [PyData.shown] using len
    obtain ⟨as, bs, hr, most, hk⟩ := DzAll.rep I ds _ its ha rv (by simpa only [PyData.showable] using sz.sh) fun t ht => Nat.le_trans (listText_mem_le ht) z2
    have rr := Reads.list ho hc hd hr
    have no := not_mem_of_deeper rr (by simp only [PyData.depth]; omega) most
    simp only [PyData.depth] at dep
    simp only [PyData.shown] at fin
    refine call_repr_slot (by omega) ⟨o, ho, hc⟩ F.slot_list_repr.toG ?_
    cases its with
    | nil =>
      have e0 : PyData.shownAll ds = [] := List.length_eq_zero_iff.mp hk.length_eq
      rw [e0, listText_nil] at fin
      exact call_list_repr_empty ⟨o, ho, hc⟩ ho hd ⟨_, _, rfl, fin s.heap _ _ fun _ _ e => e⟩
    | cons x l => exact call_list_reprK ho hc hd no (by simpa using hk.length_eq) (fun i y e => hk.item i y (by simpa using e)) guard (fun b _ => Clear.nil b) (by show X.A.units + 1 + (PyData.depthAll ds + 1) < cLine; omega) (fun _ _ e => e) (fun h' u tk k => ⟨_, _, rfl, fin h' u tk k⟩) z2
  | @tup a xs ds hs ha =>
    cases r1
    obtain ⟨its, rv, ⟨o, ho, hc, n, hd⟩, _⟩ := I.tuple (SqT.of hs)
    have z2 : (tupleText (PyData.shownAll ds)).length ≤ sizeLine := by simpa only [PyData.shown] using len
    obtain ⟨as, bs, hr, most, hk⟩ := DzAll.rep I ds _ its ha rv (by simpa only [PyData.showable] using sz.sh) fun t ht => Nat.le_trans (tupleText_mem_le ht) z2
    have rr := Reads.tuple ho hc hd hr
    have no := not_mem_of_deeper rr (by simp only [PyData.depth]; omega) most
    simp only [PyData.depth] at dep
    simp only [PyData.shown] at fin
    refine call_repr_slot (by omega) ⟨o, ho, hc⟩ F.slot_tuple_repr ?_
    exact call_tuple_reprK ho hc hd no hk guard (fun b _ => Clear.nil b) (by show X.A.units + 1 + (PyData.depthAll ds + 1) < cLine; omega) (fun _ _ e => e) (fun h' u tk k => ⟨_, _, rfl, fin h' u tk k⟩) z2
  | _ => cases disp
/-! ### such data compared: thing == text, list != [] -/
theorem eq_dict_str {prog : Program} {w : World} {A : Around} {E : Value → Shared → Prop} {s : Shared} {Q : Value → Shared → Prop} {d : Addr} {o : Obj} {es : Array DictEntry} {ep : Nat} {x : Str} {t : Tok}
    (e : s.heap.get? d = some o) (hc : o.cls = .type "dict") (hd : o.data = .dict es ep) (hu : A.units < cLine) (h : Q (.bool false) s) : wpAny (model prog w) A (compareOp .Eq (.ref d) (.str x t)) Q E s := by
  have ta : s.TypeIs (.str x t) "str" := rfl
  have tb : s.TypeIs (.ref d) "dict" := ⟨o, e, hc⟩
  show wpAny _ A (richCompare .Eq _ _) Q E s
  unfold richCompare
  refine wpAny_holding (wpAny_bind (wpAny_cRoomFor_or (.inr hu) ?_))
  rw [Shared.TypeIs.oneThing_none tb]
  refine wpAny_bind (wpAny_typeOf tb (wpAny_bind (wpAny_typeOf ta ?_)))
  have ne : (Value.type "dict" != Value.type "str") = true := by decide
  rw [if_pos ne]
  have sub : isSubtype (Value.type "str") (Value.type "dict") = pure false := rfl
  rw [sub]
  refine wpAny_bind (wpAny_pure ?_)
  simp only [Bool.false_eq_true, if_false]
  refine wpAny_bind ?_
  refine wpAny_tryCompare_declines tb F.slot_dict_eq (call_gives F.slot_dict_eq tb F.entry_dict_eq (F.args_dict_eq_2 _ _) dict_gives ⟨rfl, ?_⟩)
  simp only [Bool.not_false, if_true]
  refine wpAny_bind ?_
  refine wpAny_tryCompare_declines ta F.slot_str_eq_refl (call_meets F.slot_str_eq_refl ta F.entry_str_eq (F.args_str_eq_2 _ _) str_declines ⟨⟨o, es, ep, e, hd⟩, rfl, ?_⟩)
  refine wpAny_bind (wpAny_rule ?_)
  exact wpAny_bind (wpAny_pure (wpAny_pure h))
/-- a thing, and whether it is this text -/
inductive EqS (K : PySem.W.Frag) (H : Hp) (k : Str) : V → Bool → Prop
  | dat {y : V} {e : PyData} (d : Dp K H y e) (sh : SeqAt.shaped e = true) : EqS K H k y (PyData.eqv e (.str k))
  | dic {a : Addr} {kvs : List (Key × V)} (h : H a = some (.dK kvs)) : EqS K H k (.ref a) false
def rEqS (K : PySem.W.Frag) : R2 := fun x y H Q => ∃ k b, y = .str k ∧ PyData.strOk k = true ∧ EqS K H k x b ∧ Q (.bl b) H
theorem op_eqS {X : Cx} (hu : X.A.units + 64 < cLine) : OpR X (compareOp .Eq) (rEqS X.K) := by
  intro pins s σ H x y v u Q I rv ru ⟨k, b, e, sk, kt, q⟩
  subst e
  cases kt with
  | dat d sh => exact op_eqD hu pins s σ H _ _ v u Q I rv ru ⟨_, _, d, .str k, sh, strShaped sk, q⟩
  | dic h =>
    obtain ⟨z, lo, vs, rel, dd⟩ := dk_rd I.hok (.inl h)
    obtain ⟨o, es, ep, e, ex, d, _⟩ := dd
    obtain ⟨t, rfl⟩ := ru
    obtain rfl : v = Value.ref _ := rv
    exact eq_dict_str e ex.1 d (by omega) ⟨.bl false, H, I, rfl, q⟩
def rNeE : R2 := fun x y H Q => ∃ a b xs, x = .ref a ∧ y = .ref b ∧ H a = some (.lst xs) ∧ H b = some (.lst []) ∧ Q (.bl (!xs.isEmpty)) H
theorem op_neE {X : Cx} (hu : X.A.units + 64 < cLine) : OpR X (compareOp .NotEq) rNeE := by
  intro pins s σ H x y v u Q I rv ru ⟨a, b, xs, ea, eb, ha, hb, q⟩
  subst ea eb
  obtain rfl : v = Value.ref _ := rv
  obtain rfl : u = Value.ref _ := ru
  obtain ⟨its, r1, ⟨o, n, ho, hc, _, hd⟩, _⟩ := I.list (SqL.of (K := X.K) ha)
  obtain ⟨its2, r2, ⟨o2, n2, ho2, hc2, _, hd2⟩, _⟩ := I.list (SqL.of (K := X.K) hb)
  cases r2
  cases r1 with
  | nil =>
    have := SeqAt.RcNeAt.lists (A := X.A) (s := s) (l := a) (b := b) (items := #[]) (items2 := #[]) ⟨o, ho, hc, n, hd⟩ ⟨o2, ho2, hc2, n2, hd2⟩ rfl (by omega) (e := fun _ => true) (fun j h1 _ => absurd h1 (Nat.not_lt_zero j))
    exact this _ _ _ _ ⟨.bl false, H, I, rfl, q⟩
  | cons h t =>
    exact SeqAt.RcNeAt.lists_lengths (A := X.A) (s := s) (l := a) (b := b) ⟨o, ho, hc, n, hd⟩ ⟨o2, ho2, hc2, n2, hd2⟩ (by simp) (by omega) _ _ _ _ ⟨.bl true, H, I, rfl, q⟩
/-! ### a <= b < c <= d -/
def tChain3 (r r1 r2 : R2) (ta tb tc td : TE) : TE := fun σ H Q => ta σ H fun x H1 => tb σ H1 fun y H2 => r x y H2 fun z H3 => ∃ k, z = .bl k ∧
  (if k = true then tc σ H3 fun v H4 => r1 y v H4 fun z2 H5 => ∃ k2, z2 = .bl k2 ∧ (if k2 = true then td σ H5 fun u H6 => r2 v u H6 Q else Q (.bl false) H5) else Q (.bl false) H3)
theorem pe_chain3 {X : Cx} {o o1 o2 : CmpOp} {r r1 r2 : R2} {a b c d : Expr} {ta tb tc td : TE} {pos : Pos} (h0 : OpR X (compareOp o) r) (h1 : OpR X (compareOp o1) r1) (h2 : OpR X (compareOp o2) r2) (pa : PE X a ta) (pb : PE X b tb) (pc : PE X c tc) (pd : PE X d td)
    (hm : lastMarks [o, o1, o2] [b, c, d] = false := by with_unfolding_all rfl) : PE X (.Compare a [o, o1, o2] [b, c, d] pos) (tChain3 r r1 r2 ta tb tc td) := by
  refine ⟨fun pins s σ H Q I h => Compare_chain ?_ hm⟩
  refine thn (pa.run pins s σ H _ I h) fun v s1 ⟨x, H1, I1, rx, q1⟩ => chain_link ?_
  refine thn (pb.run pins s1 σ H1 _ I1 q1) fun u s2 ⟨y, H2, I2, ry, q2⟩ => ?_
  refine thn (h0 pins s2 σ H2 x y v u _ I2 rx ry q2) fun e s3 ⟨z, H3, I3, r3, k, ek, q3⟩ => ?_
  subst ek
  cases r3
  refine wpAny_truthy_bool ?_
  cases k with
  | false => exact ite_ff ⟨.bl false, H3, I3, rfl, q3⟩
  | true =>
    refine ite_tt (chain_link ?_)
    refine thn (pc.run pins s3 σ H3 _ I3 q3) fun u4 s4 ⟨y4, H4, I4, r4, q4⟩ => ?_
    refine thn (h1 pins s4 σ H4 y y4 u u4 _ I4 ry r4 q4) fun e5 s5 ⟨z5, H5, I5, r5, k5, ek5, q5⟩ => ?_
    subst ek5
    cases r5
    refine wpAny_truthy_bool ?_
    cases k5 with
    | false => exact ite_ff ⟨.bl false, H5, I5, rfl, q5⟩
    | true => exact ite_tt (chain_last (thn (pd.run pins s5 σ H5 _ I5 q5) fun u6 s6 ⟨y6, H6, I6, r6, q6⟩ => h2 pins s6 σ H6 y4 y6 u4 u6 Q I6 r4 r6 q6))
end LL
namespace LL
open PySem PySem.Spec PyProof.Rows L2
section
variable {P : Program} {w : World} {K : PySem.W.Frag} {mg : Str → Option Value} {base : Heap} {c tb : Addr}
def spDone (K : PySem.W.Frag) (S N tb : Addr) : Sp := fun vs H Q E => ∃ (way : Int) (x y : V), vs = [.int way, x, y] ∧ ((way = 0 ∧ spRunsOf K S tb [x] H Q E) ∨ (way = 1 ∧ spRunsBy K N tb [x] H Q E) ∨
  (way = 2 ∧ spTwo K S tb [x, y] H Q E) ∨ (way = 3 ∧ spTwo K S tb [x, y] H Q E) ∨ (way = 4 ∧ spTwo K S tb [x, y] H Q E) ∨ (way = 5 ∧ spHow K S tb [x] H Q E) ∨ (way = 6 ∧ spHow K S tb [x] H Q E) ∨ (way = 7 ∧ spHasNum K S tb [x, y] H Q E))
theorem ok__law_done (D : Defs K mg) (T : Tx K mg) (hc : D.is_runs.fd.code = .ref c) (TB : GxR.TabB base mg c tb) : FnOk P w K mg base (CX P w) 11 D._law_done.f D._law_done.fd ["_law_way", "_law_one", "_law_other"] (spDone K D.erNoStretch.C D.erNoNumber.C tb) := by
  have Ghas_number := ok_has_number (P := P) (w := w) (base := base) D T hc TB
  have Gruns_of := ok_runs_of (P := P) (w := w) (base := base) D T hc TB
  have Gruns_by := ok_runs_by (P := P) (w := w) (base := base) D T hc TB
  have Gjoined_runs := ok_joined_runs (P := P) (w := w) (base := base) D T hc TB
  have Gcommon_runs := ok_common_runs (P := P) (w := w) (base := base) D T hc TB
  have Gless_runs := ok_less_runs (P := P) (w := w) (base := base) D T hc TB
  have Ghow_many := ok_how_many (P := P) (w := w) (base := base) D T hc TB
  have Gnumbers_in := ok_numbers_in (P := P) (w := w) (base := base) D T hc TB
  refine D._law_done.F.okX scLdone (fun vs H Q E h => ?_) (fun cdv A outer s H vs Q E hr h => ?_)
  · obtain ⟨way, x, y, rfl, _⟩ := h
    rfl
  · obtain ⟨way, x, y, rfl, h⟩ := h
    refine ⟨_, (pss_cons (ps_if (pt_cmpR op_eq (pv 0) pe_int (nomark _)) (pss_one (ps_ret (pcallX D.runs_of Gruns_of (takes_of rfl rfl rfl rfl) hr (by decide) (by rfl) (pa_cons (pv 1) pa_nil)))) pss_nil)
        (pss_cons (ps_if (pt_cmpR op_eq (pv 0) pe_int (nomark _)) (pss_one (ps_ret (pcallX D.runs_by Gruns_by (takes_of rfl rfl rfl rfl) hr (by decide) (by rfl) (pa_cons (pv 1) pa_nil)))) pss_nil)
        (pss_cons (ps_if (pt_cmpR op_eq (pv 0) pe_int (nomark _)) (pss_one (ps_ret (pcallX D.joined_runs Gjoined_runs (takes_of rfl rfl rfl rfl) hr (by decide) (by rfl) (pa_cons (pv 1) (pa_cons (pv 2) pa_nil))))) pss_nil)
        (pss_cons (ps_if (pt_cmpR op_eq (pv 0) pe_int (nomark _)) (pss_one (ps_ret (pcallX D.common_runs Gcommon_runs (takes_of rfl rfl rfl rfl) hr (by decide) (by rfl) (pa_cons (pv 1) (pa_cons (pv 2) pa_nil))))) pss_nil)
        (pss_cons (ps_if (pt_cmpR op_eq (pv 0) pe_int (nomark _)) (pss_one (ps_ret (pcallX D.less_runs Gless_runs (takes_of rfl rfl rfl rfl) hr (by decide) (by rfl) (pa_cons (pv 1) (pa_cons (pv 2) pa_nil))))) pss_nil)
        (pss_cons (ps_if (pt_cmpR op_eq (pv 0) pe_int (nomark _)) (pss_one (ps_ret (pcallX D.how_many Ghow_many (takes_of rfl rfl rfl rfl) hr (by decide) (by rfl) (pa_cons (pv 1) pa_nil)))) pss_nil)
        (pss_cons (ps_if (pt_cmpR op_eq (pv 0) pe_int (nomark _)) (pss_one (ps_ret (pcallX D.numbers_in Gnumbers_in (takes_of rfl rfl rfl rfl) hr (by decide) (by rfl) (pa_cons (pv 1) pa_nil)))) pss_nil)
        (pss_one (ps_ret (pcallX D.has_number Ghas_number (takes_of rfl rfl rfl rfl) hr (by decide) (by rfl) (pa_cons (pv 1) (pa_cons (pv 2) pa_nil)))))))))))), ?_⟩
    rcases h with ⟨rfl, h⟩ | ⟨rfl, h⟩ | ⟨rfl, h⟩ | ⟨rfl, h⟩ | ⟨rfl, h⟩ | ⟨rfl, h⟩ | ⟨rfl, h⟩ | ⟨rfl, h⟩
    · exact ⟨_, rfl, rfl, _, rfl, iteT ⟨_, rfl, h⟩⟩
    · exact ⟨_, rfl, rfl, _, rfl, iteF ⟨_, rfl, rfl, _, rfl, iteT ⟨_, rfl, h⟩⟩⟩
    · exact ⟨_, rfl, rfl, _, rfl, iteF ⟨_, rfl, rfl, _, rfl, iteF ⟨_, rfl, rfl, _, rfl, iteT ⟨_, rfl, _, rfl, h⟩⟩⟩⟩
    · exact ⟨_, rfl, rfl, _, rfl, iteF ⟨_, rfl, rfl, _, rfl, iteF ⟨_, rfl, rfl, _, rfl, iteF ⟨_, rfl, rfl, _, rfl, iteT ⟨_, rfl, _, rfl, h⟩⟩⟩⟩⟩
    · exact ⟨_, rfl, rfl, _, rfl, iteF ⟨_, rfl, rfl, _, rfl, iteF ⟨_, rfl, rfl, _, rfl, iteF ⟨_, rfl, rfl, _, rfl, iteF ⟨_, rfl, rfl, _, rfl, iteT ⟨_, rfl, _, rfl, h⟩⟩⟩⟩⟩⟩
    · exact ⟨_, rfl, rfl, _, rfl, iteF ⟨_, rfl, rfl, _, rfl, iteF ⟨_, rfl, rfl, _, rfl, iteF ⟨_, rfl, rfl, _, rfl, iteF ⟨_, rfl, rfl, _, rfl, iteF ⟨_, rfl, rfl, _, rfl, iteT ⟨_, rfl, h⟩⟩⟩⟩⟩⟩⟩
    · obtain ⟨x, b, e, ru, tab, k, kr⟩ := h
      cases e
      exact ⟨_, rfl, rfl, _, rfl, iteF ⟨_, rfl, rfl, _, rfl, iteF ⟨_, rfl, rfl, _, rfl, iteF ⟨_, rfl, rfl, _, rfl, iteF ⟨_, rfl, rfl, _, rfl, iteF ⟨_, rfl, rfl, _, rfl, iteF ⟨_, rfl, rfl, _, rfl, iteT ⟨_, rfl, x, b, rfl, ru, tab, fun hb r p H' n _ _ => k hb _ _ n, kr⟩⟩⟩⟩⟩⟩⟩⟩
    · exact ⟨_, rfl, rfl, _, rfl, iteF ⟨_, rfl, rfl, _, rfl, iteF ⟨_, rfl, rfl, _, rfl, iteF ⟨_, rfl, rfl, _, rfl, iteF ⟨_, rfl, rfl, _, rfl, iteF ⟨_, rfl, rfl, _, rfl, iteF ⟨_, rfl, rfl, _, rfl, iteF ⟨_, rfl, _, rfl, h⟩⟩⟩⟩⟩⟩⟩⟩
/-- how a refusal, or none, is told -/
def outV : Option (Bool × V) → List V
  | none => [.str "told"]
  | some (true, v) => [.str "stretch", v]
  | some (false, v) => [.str "number", v]
/-- what a way comes to: told, or refused with this thing -/
def Comes (K : PySem.W.Frag) (S N tb : Addr) (way : Int) (x y : V) (H : Hp) (o : Option (Bool × V)) : Prop :=
  ∀ (Q : VK) (E : XK), (o = none → ∀ v H', Nw tb H H' → Q v H') → (∀ v, o = some (true, v) → Rai S v tb H E) → (∀ v, o = some (false, v) → Rai N v tb H E) → spDone K S N tb [.int way, x, y] H Q E
def spTold (K : PySem.W.Frag) (S N tb : Addr) : Sp := fun vs H Q _ => ∃ (way : Int) (x y : V) (o : Option (Bool × V)), vs = [.int way, x, y] ∧ GxR.TabG H tb ∧ Comes K S N tb way x y H o ∧
  ∀ (p : Addr) (H' : Hp), Nw tb H H' → H p = none → H' p = some (.tup (outV o)) → Q (.ref p) H'
theorem ok__law_told (D : Defs K mg) (T : Tx K mg) (hc : D.is_runs.fd.code = .ref c) (TB : GxR.TabB base mg c tb) : FnOk P w K mg base CX0 12 D._law_told.f D._law_told.fd ["_law_way", "_law_one", "_law_other"] (spTold K D.erNoStretch.C D.erNoNumber.C tb) := by
  have G_law_done := ok__law_done (P := P) (w := w) (base := base) D T hc TB
  refine D._law_told.F.ok scLtold (fun vs H Q E h => ?_) (fun cdv A outer s H vs Q E hr h => ?_)
  · obtain ⟨way, x, y, o, rfl, _⟩ := h
    rfl
  · obtain ⟨way, x, y, o, rfl, tab, dn, k⟩ := h
    refine ⟨_, (pss_cons (ps_set (i := 3) scLtold.nd rfl (Or.inl rfl) pe_non)
        (pss_cons (ps_try_manyA rfl rfl scLtold.nd (fun W pn xe tk _ => (pss_cons (ps_expr (pcallX D._law_done G_law_done tk hr (by decide) (by rfl) (pa_cons (pv 0) (pa_cons (pv 1) (pa_cons (pv 2) pa_nil)))))
        (pss_one (ps_set (i := 3) scLtold.nd rfl (Or.inl rfl) (pe_tup (pa_cons pe_str pa_nil)))))) (.named (i := 4) rfl rfl ⟨rfl, by decide, .inl D.erNoStretch.g⟩ (fun a oe cls d pn hz hf => (pss_one (ps_set (i := 3) scLtold.nd rfl (Or.inl rfl) (pe_tup (pa_cons pe_str (pa_cons (pe_fldE (X := (cxOf CX0 P w K mg base scLtold_N "_law_told" (defScope scLtold_st) D._law_told.f cdv A outer s H E).nox) D.erNoStretch hz hf (pv 4)) pa_nil)))))) (.named (i := 4) rfl rfl ⟨rfl, by decide, .inl D.erNoNumber.g⟩ (fun a oe cls d pn hz hf => (pss_one (ps_set (i := 3) scLtold.nd rfl (Or.inl rfl) (pe_tup (pa_cons pe_str (pa_cons (pe_fldE (X := (cxOf CX0 P w K mg base scLtold_N "_law_told" (defScope scLtold_st) D._law_told.f cdv A outer s H E).nox) D.erNoNumber hz hf (pv 4)) pa_nil)))))) (.plain ⟨rfl, by decide, .inl D.g_LoreError⟩ (fun a oe cls d pn hz hf => (pss_one (ps_set (i := 3) scLtold.nd rfl (Or.inl rfl) pe_non))) .nil))))
        (pss_one (ps_ret (pv 3))))), ?_⟩
    refine ⟨_, rfl, _, rfl, _, rfl, dn _ _ (fun ho v H1 n1 => ?_) (fun v ho => ?_) (fun v ho => ?_)⟩
    · subst ho
      refine ⟨(by show 1 ≤ sizeLine; decide), fun p hp => ?_⟩
      exact ⟨_, rfl, k p _ (n1.new hp) (n1.free hp) upd_same⟩
    · subst ho
      intro d H1 n1 hd e1
      refine ⟨true, D.erNoStretch.te, fun _ a ha => ?_, fun z => by cases z⟩
      refine ⟨_, rfl, rfl, rfl, d, _, v, rfl, e1, rfl, (by show 2 ≤ sizeLine; decide), fun p hp => ?_⟩
      exact ⟨_, rfl, k p _ (n1.new hp) (n1.free hp) upd_same⟩
    · subst ho
      intro d H1 n1 hd e1
      refine ⟨false, D.ns_nn, (fun z => by cases z), fun _ => ⟨true, D.erNoNumber.te, fun _ a ha => ?_, fun z => by cases z⟩⟩
      refine ⟨_, rfl, rfl, rfl, d, _, v, rfl, e1, rfl, (by show 2 ≤ sizeLine; decide), fun p hp => ?_⟩
      exact ⟨_, rfl, k p _ (n1.new hp) (n1.free hp) upd_same⟩
end
end LL
namespace LL
open PySem PySem.Spec PyProof.Rows L2
/-! ### tools for draws -/
theorem obj_of {H H1 : Hp} {q : Addr} {u : HO} (hq : H q = none) (e : upd H q u = H1) : Exd H H1 ∧ H1 q = some u := by
  rw [← e]
  exact ⟨(Exd.refl _).new hq, upd_same⟩
theorem at_mem {xs : List V} {r : Int} (h0 : 0 ≤ r) (h1 : r < (xs.length : Int)) : ∃ v, atI xs r = some v ∧ v ∈ xs := by
  obtain ⟨k, rfl⟩ : ∃ k : Nat, r = (k : Int) := ⟨r.toNat, (Int.toNat_of_nonneg h0).symm⟩
  have hk : k < xs.length := by omega
  exact ⟨xs[k], atI_nat (List.getElem?_eq_getElem hk), List.getElem_mem hk⟩
/-- a box stands at a -/
def Bx (H : Hp) (a : Addr) : Prop := ∃ o, H a = some o ∧ BoxO o
def noBox : HO → Bool
  | .lst [.int _, .int _, .int _] => false
  | _ => true
theorem Kept.get {a q : Addr} {H H' : Hp} {u : HO} (x : Kept a H H') (b : Bx H a) (e : H q = some u) (n : noBox u = true) : H' q = some u := by
  refine x.old q u (fun z => ?_) e
  obtain ⟨o, ea, x0, y0, z0, rfl, _⟩ := b
  rw [z, ea] at e
  cases e
  cases n
theorem Kept.getN {a q : Addr} {H H0 H' : Hp} {u : HO} (x : Kept a H H') (e : H q = some u) (b : Bx H0 a) (hq : H0 q = none) : H' q = some u := by
  refine x.old q u (fun z => ?_) e
  obtain ⟨o, ea, _⟩ := b
  rw [z, ea] at hq
  cases hq
theorem Bx.exd {a : Addr} {H H' : Hp} (b : Bx H a) (x : Exd H H') : Bx H' a := by
  obtain ⟨o, e, bo⟩ := b
  exact ⟨o, x _ _ e, bo⟩
theorem Kept.bx {a : Addr} {H H' : Hp} (x : Kept a H H') : Bx H' a := x.box
theorem noBox_strs {ks : List Str} : noBox (.lst (ks.map V.str)) = true := by
  match ks with
  | [] => rfl
  | [_] => rfl
  | [_, _] => rfl
  | [_, _, _] => rfl
  | _ :: _ :: _ :: _ :: _ => rfl
theorem sz {n : Nat} (hn : n ≤ 1000) : n ≤ sizeLine := by
  have := PySem.sizeLine_eq
  omega
theorem int_of {r : Int} (h : 0 ≤ r) : ∃ n : Nat, r = (n : Int) := ⟨r.toNat, (Int.toNat_of_nonneg h).symm⟩
theorem low_strOk {cs : List Nat} (h : ∀ c ∈ cs, low c) : PyData.strOk (ofC cs) = true := by
  unfold PyData.strOk
  rw [Array.all_eq_true']
  intro c hc
  have hc : c ∈ cs := by simpa [ofC] using hc
  have := (h c hc).2
  exact decide_eq_true (by omega)
end LL
namespace LL
open PySem PySem.Spec PyProof.Rows L2
section
variable {P : Program} {w : World} {K : PySem.W.Frag} {mg : Str → Option Value} {base : Heap} {c tb : Addr}
def spCell (K : PySem.W.Frag) : Sp := fun vs H Q _ => ∃ (a : Addr) (k : Nat) (ns : List Int), vs = [.ref a, .int k] ∧ SqL K H a (ns.map V.int) ∧ ∀ i : Int, Q (.int i) H
theorem ok__law_cell_at (D : Defs K mg) (T : Tx K mg) : FnOk P w K mg base CX0 1 D._law_cell_at.f D._law_cell_at.fd ["_law_script", "_law_k"] (spCell K) := by
  refine D._law_cell_at.F.ok scLcellat (fun vs H Q E h => ?_) (fun cdv A outer s H vs Q E hr h => ?_)
  · obtain ⟨a, k, ns, rfl, _⟩ := h
    rfl
  · obtain ⟨a, j, ns, rfl, hS, k⟩ := h
    refine ⟨_, (pss_cons (ps_if (pt_cmpR op_lt (pv 1) (pe_callB call_len_seq (by rfl) T.b_len (by decide +kernel) (pa_cons (pv 0) pa_nil)) (nomark _)) (pss_one (ps_ret (pe_ix ix_list (pv 0) (pv 1) (fun _ _ => rfl)))) pss_nil)
        (pss_one (ps_ret (pe_op op_add (pe_op op_mul pe_int (pv 1)) pe_int)))), ?_⟩
    refine ⟨_, rfl, _, rfl, a, _, rfl, .inl hS, _, _, rfl, rfl, _, rfl, ?_⟩
    refine ite2 (fun y => ?_) (fun _ => ?_)
    · have hj : j < ns.length := by
        have := of_decide_eq_true y
        rw [List.length_map] at this
        omega
      refine ⟨_, rfl, _, rfl, a, _, _, _, rfl, rfl, hS, atI_nat (v := .int ns[j]) ?_, k _⟩
      rw [List.getElem?_map, List.getElem?_eq_getElem hj]
      rfl
    · exact ⟨_, rfl, _, _, rfl, rfl, .inl ⟨by decide, by decide⟩, _, _, rfl, rfl, k _⟩
def spBox : Sp := fun vs H Q _ => ∃ i : Int, vs = [.int i] ∧ ∀ p o, H p = none → BoxO o → Q (.ref p) (upd H p o)
theorem ok__law_box (D : Defs K mg) (T : Tx K mg) : FnOk P w K mg base CX0 1 D._law_box.f D._law_box.fd ["_law_cell"] spBox := by
  refine D._law_box.F.ok scLbox (fun vs H Q E h => ?_) (fun cdv A outer s H vs Q E hr h => ?_)
  · obtain ⟨i, rfl, _⟩ := h
    rfl
  · obtain ⟨i, rfl, k⟩ := h
    have m0 : 0 ≤ i % 2147483629 := Int.emod_nonneg _ (by decide)
    have m1 : i % 2147483629 < 2147483629 := Int.emod_lt_of_pos _ (by decide)
    refine ⟨_, (pss_cons (ps_if (pt_cmpR op_ge (pv 0) (pe_op op_pow pe_int pe_int) (nomark _)) (pss_one (ps_ret (pe_lst (pa_cons (pv 0) (pa_cons (pe_op op_mod (pv 0) pe_int) (pa_cons pe_int pa_nil)))))) pss_nil)
        (pss_one (ps_ret (pe_lst (pa_cons pe_int (pa_cons (pe_op op_mod (pv 0) pe_int) (pa_cons pe_int pa_nil))))))), ?_⟩
    refine ⟨_, rfl, _, _, rfl, rfl, ⟨by decide, by decide, by decide⟩, _, _, rfl, rfl, _, rfl, ?_⟩
    refine ite2 (fun y => ?_) (fun _ => ?_)
    · have y1 := of_decide_eq_true y
      have y0 : 0 ≤ i := Int.le_trans (by decide) y1
      exact ⟨_, rfl, _, rfl, _, _, rfl, rfl, (by show (0 : Int) < 2147483629; decide), (by show 3 ≤ sizeLine; decide), fun p hp => k p _ hp ⟨i, _, 0, rfl, y0, m0, by omega⟩⟩
    · exact ⟨_, rfl, _, _, rfl, rfl, (by show (0 : Int) < 2147483629; decide), (by show 3 ≤ sizeLine; decide), fun p hp => k p _ hp ⟨0, _, 0, rfl, Int.le_refl _, m0, by omega⟩⟩
def spTake : Sp := fun vs H Q _ => ∃ (a : Addr) (m : Int), vs = [.ref a, .int m] ∧ Bx H a ∧ 0 < m ∧ m < 1073741824 ∧ ∀ r H', 0 ≤ r → r < m → Kept a H H' → Q (.int r) H'
theorem ok__law_take (D : Defs K mg) (T : Tx K mg) : FnOk P w K mg base CX0 1 D._law_take.f D._law_take.fd ["_law_box_here", "_law_many"] spTake := by
  refine D._law_take.F.ok scLtake (fun vs H Q E h => ?_) (fun cdv A outer s H vs Q E hr h => ?_)
  · obtain ⟨a, m, rfl, _⟩ := h
    rfl
  · obtain ⟨a, m, rfl, ⟨_, hb, ⟨x, b, n, rfl, x0, b0, b1⟩⟩, m0, m1, k⟩ := h
    have hS : SqL K H a [.int x, .int b, .int n] := SqL.of hb
    refine ⟨_, (pss_cons (ps_if (pt_cmpR op_gt (pe_ix ix_list (pv 0) pe_int (fun _ _ => rfl)) pe_int (nomark _)) (pss_cons (ps_set (i := 2) scLtake.nd rfl (Or.inl rfl) (pe_op op_mod (pe_ix ix_list (pv 0) pe_int (fun _ _ => rfl)) (pv 1)))
        (pss_cons (ps_asg (pe_op op_fdiv (pe_ix ix_list (pv 0) pe_int (fun _ _ => rfl)) (pv 1)) (pg_sub (pv 0) pe_int set_list))
        (pss_one (ps_ret (pv 2))))) pss_nil)
        (pss_cons (ps_asg (pe_op op_add (pe_ix ix_list (pv 0) pe_int (fun _ _ => rfl)) pe_int) (pg_sub (pv 0) pe_int set_list))
        (pss_cons (ps_set (i := 2) scLtake.nd rfl (Or.inl rfl) (pe_op op_mod (pe_op op_add (pe_op op_add (pe_op op_mul (pe_ix ix_list (pv 0) pe_int (fun _ _ => rfl)) pe_int) (pe_op op_mul pe_int (pe_ix ix_list (pv 0) pe_int (fun _ _ => rfl)))) pe_int) pe_int))
        (pss_cons (ps_set (i := 2) scLtake.nd rfl (Or.inl rfl) (pe_op op_mod (pe_op op_add (pe_op op_add (pe_op op_mul (pv 2) (pv 2)) (pe_op op_mul pe_int (pe_ix ix_list (pv 0) pe_int (fun _ _ => rfl)))) pe_int) pe_int))
        (pss_one (ps_ret (pe_op op_mod (pe_op op_mod (pe_op op_mul (pv 2) (pv 2)) pe_int) (pv 1)))))))), ?_⟩
    refine ⟨_, rfl, a, _, _, _, rfl, rfl, hS, at0 _ _ _, _, _, rfl, rfl, _, rfl, ?_⟩
    refine ite2 (fun _ => ?_) (fun _ => ?_)
    · refine ⟨_, rfl, a, _, _, _, rfl, rfl, hS, at0 _ _ _, _, rfl, _, _, rfl, rfl, m0, ?_⟩
      refine ⟨_, rfl, a, _, _, _, rfl, rfl, hS, at0 _ _ _, _, rfl, _, _, rfl, rfl, ⟨m0, m1⟩, ?_⟩
      refine ⟨_, rfl, a, _, _, 0, rfl, rfl, hb, rfl, ?_⟩
      exact ⟨_, rfl, k _ _ (Int.emod_nonneg _ (by omega)) (Int.emod_lt_of_pos _ m0) (Kept.upd ⟨_, _, _, rfl, Int.ediv_nonneg x0 (by omega), b0, b1⟩)⟩
    · refine ⟨_, rfl, a, _, _, _, rfl, rfl, hS, at2 _ _ _, _, _, rfl, rfl, ?_⟩
      refine ⟨_, rfl, a, _, _, 2, rfl, rfl, hb, rfl, ?_⟩
      have hb2 : (upd H a (.lst [.int x, .int b, .int (n + 1)])) a = some (.lst [.int x, .int b, .int (n + 1)]) := upd_same
      have hS2 : SqL K (upd H a (.lst [.int x, .int b, .int (n + 1)])) a [.int x, .int b, .int (n + 1)] := SqL.of hb2
      refine ⟨_, rfl, a, _, _, _, rfl, rfl, hS2, at1 _ _ _, _, _, rfl, rfl, .inr ⟨by decide, by decide⟩, ?_⟩
      refine ⟨_, rfl, a, _, _, _, rfl, rfl, hS2, at2 _ _ _, _, _, rfl, rfl, .inl ⟨by decide, by decide⟩, _, _, rfl, rfl, _, _, rfl, rfl, _, _, rfl, rfl, (by show (0 : Int) < 2147483647; decide), ?_⟩
      generalize hN : (b * 48271 + 7919 * (n + 1) + 101) % 2147483647 = N
      have N0 : 0 ≤ N := by rw [← hN]; exact Int.emod_nonneg _ (by decide)
      have N1 : N < 2147483647 := by rw [← hN]; exact Int.emod_lt_of_pos _ (by decide)
      refine ⟨_, rfl, _, rfl, _, _, rfl, rfl, .inl ⟨by omega, by omega⟩, _, rfl, a, _, _, _, rfl, rfl, hS2, at2 _ _ _, _, _, rfl, rfl, .inl ⟨by decide, by decide⟩, _, _, rfl, rfl, _, _, rfl, rfl, _, _, rfl, rfl, (by show (0 : Int) < 2147483629; decide), ?_⟩
      generalize hM : (N * N + 104729 * (n + 1) + 7) % 2147483629 = M
      have M0 : 0 ≤ M := by rw [← hM]; exact Int.emod_nonneg _ (by decide)
      have M1 : M < 2147483629 := by rw [← hM]; exact Int.emod_lt_of_pos _ (by decide)
      refine ⟨_, rfl, _, rfl, _, _, rfl, rfl, .inl ⟨by omega, by omega⟩, _, _, rfl, rfl, (by show (0 : Int) < 2147483587; decide), _, rfl, _, _, rfl, rfl, m0, ?_⟩
      exact k _ _ (Int.emod_nonneg _ (by omega)) (Int.emod_lt_of_pos _ m0) (Kept.upd ⟨_, _, _, rfl, x0, b0, b1⟩)

end
/-! ### things as data -/
def goodD : PyData → Bool
  | .tuple [.int b, .int e] => decide (0 ≤ b) && (decide (b < e) && decide (e ≤ 400))
  | _ => false
theorem tyX_d {K : PySem.W.Frag} {H : Hp} {a : Addr} {xs : List (Key × V)} (h : H a = some (.dK xs)) : TyX K H (.ref a) (.type "dict") := .base (.dK h)
section
variable {K : PySem.W.Frag} {H : Hp}
theorem Dz.thing {x : V} {d : PyData} (h : Dz H x d) : Thing K H x := by
  cases h with
  | non => exact .non
  | bl b => exact .bl b
  | int i => exact .int i
  | str z => exact .str z
  | lst h _ => exact .lst (tyX_l h)
  | tup h _ => exact .tup (tyX_t h)
  | dct h => exact .dct (tyX_d h)
theorem DzAll.thing {xs : List V} {ds : List PyData} (h : DzAll H xs ds) : ∀ u ∈ xs, Thing K H u := by
  induction xs generalizing ds with
  | nil => exact fun u hu => (nomatch hu)
  | cons x xs ih =>
    cases h with
    | cons h t =>
      intro u hu
      rcases List.mem_cons.mp hu with rfl | hu
      · exact h.thing
      · exact ih t u hu
theorem DzAll.len {xs : List V} {ds : List PyData} (h : DzAll H xs ds) : xs.length = ds.length := by
  induction xs generalizing ds with
  | nil => cases h; rfl
  | cons x xs ih =>
    cases h with
    | cons h t => rw [List.length_cons, List.length_cons, ih t]
theorem DzAll.get {xs : List V} {ds : List PyData} (h : DzAll H xs ds) {i : Nat} {x : V} (e : xs[i]? = some x) : ∃ d, ds[i]? = some d ∧ Dz H x d := by
  induction xs generalizing ds i with
  | nil => cases e
  | cons y ys ih =>
    cases h with
    | cons h t =>
      cases i with
      | zero =>
        cases e
        exact ⟨_, rfl, h⟩
      | succ i => exact ih t e
theorem Dz.intV {x : V} {d : PyData} (h : Dz H x d) {i : Int} (e : x = .int i) : d = .int i := by
  subst e
  cases h
  rfl
theorem Dz.int_of {x : V} {i : Int} (h : Dz H x (.int i)) : x = .int i := by
  cases h
  rfl
theorem Dz.stB {x : V} {d : PyData} (h : Dz H x d) : StB K H x (goodD d) := by
  cases h with
  | non => exact .other .non
  | bl b => exact .other (.bl b)
  | int i => exact .other (.int i)
  | str z => exact .other (.str z)
  | lst h _ => exact .other (.lst (tyX_l h))
  | dct h => exact .other (.dct (tyX_d h))
  | @tup a xs ds h al =>
    match xs, ds, al with
    | [], [], _ => exact .wrong h (by simp)
    | [x], [d], _ =>
      have g : goodD (.tuple [d]) = false := by cases d <;> rfl
      rw [g]
      exact .wrong h (by simp)
    | x :: y :: z :: xs, d :: e :: f :: ds, _ =>
      have g : goodD (.tuple (d :: e :: f :: ds)) = false := by cases d <;> first | rfl | (cases e <;> rfl)
      rw [g]
      exact .wrong h (by simp)
    | [x, y], [d, e], .cons h1 (.cons h2 .nil) =>
      have p := StB.pair (K := K) h h1.thing h2.thing
      have q : spanV x y 400 = goodD (.tuple [d, e]) := by
        cases h1 with
        | int b =>
          cases h2 with
          | int t =>
            show (decide (0 ≤ b) && decide (b ≤ 400) && (decide (b + 1 ≤ t) && decide (t ≤ 400))) = (decide (0 ≤ b) && (decide (b < t) && decide (t ≤ 400)))
            rw [Bool.eq_iff_iff]
            simp only [Bool.and_eq_true, decide_eq_true_eq]
            omega
          | _ => exact Bool.and_false _
        | _ => rfl
      rw [← q]
      exact p
theorem DzAll.stBs {xs : List V} {ds : List PyData} (h : DzAll H xs ds) : StBs K H xs (ds.map goodD) := by
  induction xs generalizing ds with
  | nil => cases h; exact .nil
  | cons x xs ih =>
    cases h with
    | cons h t => exact .cons h.stB (ih t)
theorem good_pr {d : PyData} (h : goodD d = true) : ∃ z : Pr, d = prDat z ∧ z.1 < z.2 ∧ z.2 ≤ 400 := by
  match d, h with
  | .tuple [.int b, .int e], h =>
    have h : (decide (0 ≤ b) && (decide (b < e) && decide (e ≤ 400))) = true := h
    simp only [Bool.and_eq_true, decide_eq_true_eq] at h
    refine ⟨(b.toNat, e.toNat), ?_, ?_, ?_⟩
    · show PyData.tuple [.int b, .int e] = .tuple [.int (b.toNat : Int), .int (e.toNat : Int)]
      rw [Int.toNat_of_nonneg h.1, Int.toNat_of_nonneg (by omega)]
    · show b.toNat < e.toNat
      omega
    · show e.toNat ≤ 400
      omega
theorem goods_row {ds : List PyData} (h : (ds.map goodD).all id = true) : ∃ r : List Pr, ds = r.map prDat ∧ Valid r := by
  induction ds with
  | nil => exact ⟨[], rfl, fun z hz => (nomatch hz)⟩
  | cons d ds ih =>
    rw [List.map_cons, List.all_cons, Bool.and_eq_true] at h
    obtain ⟨z, rfl, z1, z2⟩ := good_pr h.1
    obtain ⟨r, rfl, va⟩ := ih h.2
    refine ⟨z :: r, rfl, fun y hy => ?_⟩
    rcases List.mem_cons.mp hy with rfl | hy
    · exact ⟨z1, z2⟩
    · exact va y hy
theorem DzAll.prs {xs : List V} {r : List Pr} (h : DzAll H xs (r.map prDat)) : ∃ qs : List Addr, xs = qs.map V.ref ∧ PrsAt H qs r := by
  induction r generalizing xs with
  | nil => cases h; exact ⟨[], rfl, .nil⟩
  | cons z r ih =>
    cases h with
    | cons h t =>
      obtain ⟨qs, rfl, pr⟩ := ih t
      cases h with
      | @tup q ys _ hq al =>
        match ys, al with
        | [y1, y2], .cons h1 (.cons h2 .nil) =>
          cases h1
          cases h2
          exact ⟨q :: qs, rfl, .cons hq pr⟩
def prOf : PyData → Pr
  | .tuple [.int b, .int e] => (b.toNat, e.toNat)
  | _ => (0, 0)
theorem prOf_dat (z : Pr) : prOf (prDat z) = z := by
  obtain ⟨a, b⟩ := z
  rfl
/-- whether data is a tidy row -/
def tidyD : PyData → Bool
  | .list ds => (ds.map goodD).all id && decide (Tidy (ds.map prOf))
  | _ => false
theorem Dz.runsB {x : V} {d : PyData} (h : Dz H x d) : RunsB K H x (tidyD d) := by
  cases h with
  | non => exact .other .non
  | bl b => exact .other (.bl b)
  | int i => exact .other (.int i)
  | str z => exact .other (.str z)
  | tup h _ => exact .other (.tup (tyX_t h))
  | dct h => exact .other (.dct (tyX_d h))
  | @lst a xs ds h al =>
    show RunsB K H (.ref a) ((ds.map goodD).all id && decide (Tidy (ds.map prOf)))
    cases q : (ds.map goodD).all id with
    | false => exact .wrong h al.stBs q
    | true =>
      obtain ⟨r, rfl, va⟩ := goods_row q
      obtain ⟨qs, rfl, pr⟩ := al.prs
      have e : (r.map prDat).map prOf = r := by
        rw [List.map_map]
        exact (List.map_congr_left fun z _ => prOf_dat z).trans (List.map_id r)
      rw [e]
      exact .row ⟨qs, h, pr⟩ va
end
end LL
namespace LL
open PySem PySem.Spec PyProof.Rows L2
section
variable {P : Program} {w : World} {K : PySem.W.Frag} {mg : Str → Option Value} {base : Heap} {c tb : Addr}
def spWholeL (K : PySem.W.Frag) : Sp := fun vs H Q _ => ∃ x, vs = [x] ∧ Thing K H x ∧ Q (.bl (isInt x)) H
theorem ok__law_whole (D : Defs K mg) (T : Tx K mg) : FnOk P w K mg base CX0 1 D._law_whole.f D._law_whole.fd ["_law_thing_here"] (spWholeL K) := by
  refine D._law_whole.F.ok scLwhole (fun vs H Q E h => ?_) (fun cdv A outer s H vs Q E hr h => ?_)
  · obtain ⟨x, rfl, _⟩ := h
    rfl
  · obtain ⟨x, rfl, th, k⟩ := h
    refine ⟨_, (pss_one (ps_ret (pe_and (pe_callB call_is_int (by rfl) T.b_isinstance (by decide +kernel) (pa_cons (pv 0) (pa_cons (pe_bltn (v := .ty "int") (u := .type "int") (by rfl) T.b_int (by decide +kernel) rfl) pa_nil))) (pe_one (pe_not (pe_callB call_is_bool (by rfl) T.b_isinstance (by decide +kernel) (pa_cons (pv 0) (pa_cons (pe_bltn (v := .ty "bool") (u := .type "bool") (by rfl) T.b_bool (by decide +kernel) rfl) pa_nil)))))))), ?_⟩
    refine ⟨_, rfl, _, rfl, th, _, rfl, ?_⟩
    cases th with
    | int i => exact iteT ⟨_, rfl, _, rfl, .int i, _, rfl, k⟩
    | bl b => exact iteT ⟨_, rfl, _, rfl, .bl b, _, rfl, k⟩
    | _ => exact iteF k
def spGood : Sp := fun vs H Q _ => ∃ (x : V) (d : PyData), vs = [x] ∧ Dz H x d ∧ Q (.bl (goodD d)) H
theorem ok__law_good (D : Defs K mg) (T : Tx K mg) : FnOk P w K mg base CX0 2 D._law_good.f D._law_good.fd ["_law_thing_here"] spGood := by
  have G_law_whole := ok__law_whole (P := P) (w := w) (base := base) D T
  refine D._law_good.F.ok scLgood (fun vs H Q E h => ?_) (fun cdv A outer s H vs Q E hr h => ?_)
  · obtain ⟨x, d, rfl, _⟩ := h
    rfl
  · obtain ⟨x, d, rfl, dz, k⟩ := h
    refine ⟨_, (pss_cons (ps_if (PW.pt (pw_or (pt_not (pt_val (pe_callB call_is_tuple (by rfl) T.b_isinstance (by decide +kernel) (pa_cons (pv 0) (pa_cons (pe_bltn (v := .ty "tuple") (u := .type "tuple") (by rfl) T.b_tuple (by decide +kernel) rfl) pa_nil))))) (pw_or (pt_cmpR op_ne (pe_callB call_len_seq (by rfl) T.b_len (by decide +kernel) (pa_cons (pv 0) pa_nil)) pe_int (nomark _)) (pw_or (pt_not (pt_val (pcall D._law_whole G_law_whole hr (by decide) (by rfl) (pa_cons (pe_ix ix_tup (pv 0) pe_int (fun _ _ => rfl)) pa_nil)))) (pw_or1 (pt_not (pt_val (pcall D._law_whole G_law_whole hr (by decide) (by rfl) (pa_cons (pe_ix ix_tup (pv 0) pe_int (fun _ _ => rfl)) pa_nil))))))))) (pss_one (ps_ret pe_bl)) pss_nil)
        (pss_one (ps_ret (pe_chain3 op_le op_lt op_le pe_int (pe_ix ix_tup (pv 0) pe_int (fun _ _ => rfl)) (pe_ix ix_tup (pv 0) pe_int (fun _ _ => rfl)) pe_int)))), ?_⟩
    have st := dz.stB (K := K)
    cases dz with
    | non => exact ⟨_, rfl, _, _, rfl, .non, _, rfl, iteT k⟩
    | bl b => exact ⟨_, rfl, _, _, rfl, .bl b, _, rfl, iteT k⟩
    | int i => exact ⟨_, rfl, _, _, rfl, .int i, _, rfl, iteT k⟩
    | str z => exact ⟨_, rfl, _, _, rfl, .str z, _, rfl, iteT k⟩
    | lst h _ => exact ⟨_, rfl, _, _, rfl, .lst (tyX_l h), _, rfl, iteT k⟩
    | dct h => exact ⟨_, rfl, _, _, rfl, .dct (tyX_d h), _, rfl, iteT k⟩
    | @tup a xs ds h al =>
      refine ⟨_, rfl, _, _, rfl, .tup (tyX_t h), _, rfl, iteF ⟨_, rfl, _, _, rfl, .inr (SqT.of h), rfl, _, rfl, ?_⟩⟩
      rw [dec_int]
      match xs, ds, al with
      | [], [], _ => exact iteT k
      | [x], [d], _ =>
        have g : goodD (.tuple [d]) = false := by cases d <;> rfl
        rw [g] at k
        exact iteT k
      | x :: y :: z :: xs, d :: e :: f :: ds, _ =>
        have g : goodD (.tuple (d :: e :: f :: ds)) = false := by cases d <;> first | rfl | (cases e <;> rfl)
        rw [g] at k
        have q : (!(((x :: y :: z :: xs).length : Int) == 2)) = true := by
          simp only [List.length_cons, Bool.not_eq_true', beq_eq_false_iff_ne]
          omega
        rw [q]
        exact iteT k
      | [x, y], [d, e], .cons h1 (.cons h2 .nil) =>
        refine iteF ⟨_, rfl, a, _, _, _, rfl, rfl, SqT.of h, atT0 _ _, x, rfl, h1.thing, _, rfl, ?_⟩
        cases h1 with
        | int b =>
          refine iteF ⟨_, rfl, a, _, _, _, rfl, rfl, SqT.of h, atT1 _ _ _, y, rfl, h2.thing, _, rfl, ?_⟩
          cases h2 with
          | int t =>
            refine iteF ⟨_, rfl, a, _, _, _, rfl, rfl, SqT.of h, atT0 _ _, _, _, rfl, rfl, _, rfl, ?_⟩
            have k : Q (.bl (decide (0 ≤ b) && (decide (b < t) && decide (t ≤ 400)))) H := k
            refine ite2 (fun y1 => ?_) (fun y1 => ?_)
            · refine ⟨_, rfl, a, _, _, _, rfl, rfl, SqT.of h, atT1 _ _ _, _, _, rfl, rfl, _, rfl, ?_⟩
              rw [y1, Bool.true_and] at k
              refine ite2 (fun y2 => ?_) (fun y2 => ?_)
              · rw [y2, Bool.true_and] at k
                exact ⟨_, _, rfl, rfl, k⟩
              · rw [Bool.not_eq_true] at y2
                rw [y2, Bool.false_and] at k
                exact k
            · rw [Bool.not_eq_true] at y1
              rw [y1, Bool.false_and] at k
              exact k
          | _ => exact iteT k
        | _ => exact iteT k
theorem tidy_chain : ∀ (r : List Pr) (b : Nat), TidyFrom b r → ∀ (m : Nat) (z y : Pr), r[m]? = some z → r[m + 1]? = some y → z.2 < y.1
  | [], _, _, _, _, _, h, _ => by cases h
  | x :: r, b, ⟨_, _, _, t⟩, 0, z, y, h1, h2 => by
    cases h1
    match r, h2, t with
    | y :: r, rfl, ⟨t, _⟩ => exact t
  | x :: r, b, ⟨_, _, _, t⟩, m + 1, z, y, h1, h2 => tidy_chain r _ t m z y h1 h2
theorem chain_tidy : ∀ (r : List Pr) (b : Nat), Valid r → (∀ z : Pr, r[0]? = some z → b ≤ z.1) → (∀ (m : Nat) (z y : Pr), r[m]? = some z → r[m + 1]? = some y → z.2 < y.1) → TidyFrom b r
  | [], _, _, _, _ => trivial
  | x :: r, b, va, lo, ch => by
    obtain ⟨v1, v2⟩ := va x List.mem_cons_self
    refine ⟨lo x rfl, v1, v2, chain_tidy r _ (fun z hz => va z (List.mem_cons_of_mem _ hz)) (fun z hz => ?_) (fun m z y h1 h2 => ch (m + 1) z y h1 h2)⟩
    exact ch 0 x z rfl hz
def spTidyL (tb : Addr) : Sp := fun vs H Q _ => ∃ (x : V) (d : PyData), vs = [x] ∧ Dz H x d ∧ (∀ es, d = .list es → es.length ≤ 1000) ∧ GxR.TabG H tb ∧ ∀ H', Nw tb H H' → Q (.bl (tidyD d)) H'
theorem ok__law_tidy (D : Defs K mg) (T : Tx K mg) : FnOk P w K mg base CX0 3 D._law_tidy.f D._law_tidy.fd ["_law_thing_here"] (spTidyL tb) := by
  have G_law_good := ok__law_good (P := P) (w := w) (base := base) D T
  refine D._law_tidy.F.ok scLtidy (fun vs H Q E h => ?_) (fun cdv A outer s H vs Q E hr h => ?_)
  · obtain ⟨x, d, rfl, _⟩ := h
    rfl
  · obtain ⟨x, d, rfl, dz, lim, tab, k⟩ := h
    refine ⟨_, (pss_cons (ps_if (PW.pt (pw_or (pt_not (pt_val (pe_callB call_is_list (by rfl) T.b_isinstance (by decide +kernel) (pa_cons (pv 0) (pa_cons (pe_bltn (v := .ty "list") (u := .type "list") (by rfl) T.b_list (by decide +kernel) rfl) pa_nil))))) (pw_or1 (pt_cmpR (op_neE hr.units) (pe_lc (own := [("_law_one", 1)]) (g := gName 1) rfl scLtidy.nd (pi_list (pv 0)) (blkOk_by (N := scLtidy_N) (sc := defScope scLtidy_st) (by decide +kernel)) (fun _ _ _ _ _ => (pg_name (i := 1) scLtidy.nd rfl (Or.inl rfl))) (fun _ _ _ _ _ => pts_one (pt_not (pt_val (pcall D._law_good G_law_good hr (by decide) (by rfl) (pa_cons (pv 1) pa_nil))))) (fun _ _ _ _ _ => (pv 1))) (pe_lst pa_nil) (nomark _))))) (pss_one (ps_ret pe_bl)) pss_nil)
        (pss_cons (ps_for PassesOwn.never rfl (pi_range2 rfl T.b_range (pa_cons pe_int (pa_cons (pe_callB call_len_seq (by rfl) T.b_len (by decide +kernel) (pa_cons (pv 0) pa_nil)) pa_nil))) (pg_name (i := 2) scLtidy.nd rfl (Or.inl rfl)) (pss_one (ps_if (pt_cmpR op_le (pe_ix ix_tup (pe_ix ix_list (pv 0) (pv 2) (fun _ _ => rfl)) pe_int (fun _ _ => rfl)) (pe_ix ix_tup (pe_ix ix_list (pv 0) (pe_op op_sub (pv 2) pe_int) (fun _ _ => rfl)) pe_int (fun _ _ => rfl)) (nomark _)) (pss_one (ps_ret pe_bl)) pss_nil)))
        (pss_one (ps_ret pe_bl)))), ?_⟩
    cases dz with
    | non => exact ⟨_, rfl, _, _, rfl, .non, _, rfl, iteT (k H (Nw.refl tab))⟩
    | bl b => exact ⟨_, rfl, _, _, rfl, .bl b, _, rfl, iteT (k H (Nw.refl tab))⟩
    | int i => exact ⟨_, rfl, _, _, rfl, .int i, _, rfl, iteT (k H (Nw.refl tab))⟩
    | str z => exact ⟨_, rfl, _, _, rfl, .str z, _, rfl, iteT (k H (Nw.refl tab))⟩
    | tup h _ => exact ⟨_, rfl, _, _, rfl, .tup (tyX_t h), _, rfl, iteT (k H (Nw.refl tab))⟩
    | dct h => exact ⟨_, rfl, _, _, rfl, .dct (tyX_d h), _, rfl, iteT (k H (Nw.refl tab))⟩
    | @lst a xs ds ha al =>
      have fw := lim ds rfl
      have xl := al.len
      refine ⟨_, rfl, _, _, rfl, .lst (tyX_l ha), _, rfl, iteF ?_⟩
      refine ⟨_, rfl, a, rfl, ⟨_, SqL.of ha⟩, fun D1 hD1 => ?_⟩
      refine lc_list (K := K) (a := a) (xs := xs) (fun i H' => Nw tb H H' ∧ ∃ acc, H' D1 = some (.lst acc) ∧ acc.length ≤ i ∧ acc.isEmpty = ((ds.take i).map goodD).all id) ⟨(Nw.refl tab).new hD1, [], upd_same, Nat.le_refl _, rfl⟩ (fun i H' _ p => SqL.of (p.1.lst ha)) ?_ ?_
      · rintro i x H' hx ⟨n1, acc, ea, la, em⟩
        obtain ⟨d, hd, dz⟩ := al.get hx
        have il : i < xs.length := (List.getElem?_eq_some_iff.mp hx).1
        have tk : ((ds.take (i + 1)).map goodD).all id = (((ds.take i).map goodD).all id && goodD d) := by
          rw [List.take_add_one, hd, List.map_append, List.all_append]
          simp
        refine ⟨rfl, ?_⟩
        refine ⟨_, rfl, x, d, rfl, Dz.keep n1.keep _ _ dz, _, rfl, ?_⟩
        cases g : goodD d with
        | true =>
          refine iteF ⟨n1, acc, ea, Nat.le_succ_of_le la, ?_⟩
          rw [tk, g, Bool.and_true]
          exact em
        | false =>
          refine iteT ⟨_, rfl, acc, ea, ?_, n1.put hD1 ea (fun q z => by cases z), acc ++ [x], upd_same, ?_, ?_⟩
          · have := PySem.sizeLine_eq
            omega
          · rw [List.length_append]
            exact Nat.succ_le_succ la
          · rw [tk, g, Bool.and_false]
            simp
      · rintro H1 ⟨n1, acc, ea, la, em⟩
        rw [List.take_of_length_le (by omega)] at em
        refine ⟨(by show 0 ≤ sizeLine; decide), fun D2 hD2 => ?_⟩
        have n2 := n1.new hD2 (u := .lst [])
        refine ⟨D1, D2, acc, rfl, rfl, by rw [upd_ne (ne_of_none ea hD2)]; exact ea, upd_same, _, rfl, ?_⟩
        rw [em]
        cases al2 : (ds.map goodD).all id with
        | false =>
          have e : tidyD (.list ds) = false := by
            show ((ds.map goodD).all id && _) = false
            rw [al2]
            rfl
          rw [e] at k
          exact iteT (k _ n2)
        | true =>
          obtain ⟨r, rfl, va⟩ := goods_row al2
          have er : (r.map prDat).map prOf = r := by
            rw [List.map_map]
            exact (List.map_congr_left fun z _ => prOf_dat z).trans (List.map_id r)
          have e : tidyD (.list (r.map prDat)) = decide (Tidy r) := by
            show (((r.map prDat).map goodD).all id && decide (Tidy ((r.map prDat).map prOf))) = _
            rw [al2, er]
            rfl
          rw [e] at k
          obtain ⟨qs, rfl, pr⟩ := al.prs
          have ha2 := n2.lst ha
          have pr2 : PrsAt (upd H1 D2 (.lst [])) qs r := pr.put fun q xs e => n2.tup e
          generalize upd H1 D2 (.lst []) = H2 at n2 ha2 pr2 ⊢
          have q1 : (qs.map V.ref).length = r.length := by rw [List.length_map, pr.len]
          rw [List.length_map] at fw
          refine iteF ⟨_, rfl, a, _, rfl, .inl (SqL.of ha2), _, _, rfl, ⟨by omega, by omega, by omega, by omega⟩, for_range (lo := 1) (n := (((qs.map V.ref).length : Int) - 1).toNat) (fun j σ H' => H' = H2 ∧ (∃ v1 v2, σ = [some (.ref a), v1, v2]) ∧ ∀ (m : Nat) (z y : Pr), m < j → r[m]? = some z → r[m + 1]? = some y → z.2 < y.1) ⟨rfl, ⟨_, _, rfl⟩, fun m z y l => absurd l (Nat.not_lt_zero m)⟩ ?_ ?_⟩
          · rintro j σ H' hj ⟨rfl, ⟨v1, v2, rfl⟩, ch⟩
            rw [q1] at hj
            obtain ⟨z, hz⟩ : ∃ z, r[j]? = some z := ⟨_, List.getElem?_eq_getElem (by omega)⟩
            obtain ⟨y, hy⟩ : ∃ y, r[j + 1]? = some y := ⟨_, List.getElem?_eq_getElem (by omega)⟩
            have at_ : ∀ (i : Nat) (x : Pr), r[i]? = some x → ∃ q, atI (qs.map V.ref) ((i : Nat) : Int) = some (.ref q) ∧ H' q = some (.tup [.int (x.1 : Int), .int (x.2 : Int)]) := fun i x hx => by
              have il : i < qs.length := by
                rw [pr.len]
                exact (List.getElem?_eq_some_iff.mp hx).1
              obtain ⟨x', hx', e⟩ := pr2.get (List.getElem?_eq_getElem il)
              rw [hx] at hx'
              cases hx'
              refine ⟨qs[i], atI_nat ?_, e⟩
              rw [List.getElem?_map, List.getElem?_eq_getElem il]
              rfl
            obtain ⟨qz, az, ez⟩ := at_ j z hz
            obtain ⟨qy, ay, ey⟩ := at_ (j + 1) y hy
            have e1 : (1 : Int) + (j : Int) = ((j + 1 : Nat) : Int) := by omega
            have e2 : ((j + 1 : Nat) : Int) - 1 = (j : Int) := by omega
            rw [e1]
            refine ⟨_, rfl, _, rfl, a, _, _, _, rfl, rfl, SqL.of ha2, ay, qy, _, _, _, rfl, rfl, SqT.of ey, atT0 _ _, ?_⟩
            refine ⟨_, rfl, _, rfl, _, _, rfl, rfl, a, _, _, _, rfl, rfl, SqL.of ha2, by rw [e2]; exact az, qz, _, _, _, rfl, rfl, SqT.of ez, atT1 _ _ _, _, _, rfl, rfl, _, rfl, ?_⟩
            refine ite2 (fun l => ?_) (fun l => ?_)
            · have l := of_decide_eq_true l
              have no : ¬ Tidy r := fun ti => by
                have := tidy_chain r 0 ti j z y hz hy
                omega
              rw [decide_eq_false no] at k
              exact k _ n2
            · refine ⟨rfl, ⟨_, _, rfl⟩, fun m z' y' lm h1 h2 => ?_⟩
              rcases Nat.lt_succ_iff_lt_or_eq.mp lm with lm | rfl
              · exact ch m z' y' lm h1 h2
              · rw [hz] at h1
                rw [hy] at h2
                cases h1
                cases h2
                have l : ¬ ((y.1 : Int) ≤ (z.2 : Int)) := fun q => l (decide_eq_true q)
                omega
          · rintro σ H' ⟨rfl, ⟨v1, v2, rfl⟩, ch⟩
            have ti : Tidy r := chain_tidy r 0 va (fun _ _ => Nat.zero_le _) fun m z y h1 h2 => by
              refine ch m z y ?_ h1 h2
              have := (List.getElem?_eq_some_iff.mp h2).1
              rw [q1]
              omega
            rw [decide_eq_true ti] at k
            exact k _ n2
end
end LL
namespace LL
open PySem PySem.Spec PyProof.Rows L2
def numD : PyData → Bool
  | .int n => decide (0 ≤ n) && decide (n < 400)
  | _ => false
def okD (b : Bool) (d : PyData) : Bool := if b then numD d else goodD d
/-- the first that is none -/
def bad1 (f : PyData → Bool) : List V → List PyData → Option (V × PyData)
  | x :: xs, d :: ds => if f d then bad1 f xs ds else some (x, d)
  | _, _ => none
theorem bad1_at (f : PyData → Bool) : ∀ (xs : List V) (ds : List PyData) (i : Nat) (x : V) (d : PyData), (∀ j, j < i → ∃ d, ds[j]? = some d ∧ f d = true) → xs[i]? = some x → ds[i]? = some d → f d = false → bad1 f xs ds = some (x, d)
  | [], _, _, _, _, _, h, _, _ => by cases h
  | _ :: _, [], _, _, _, _, _, h, _ => by cases h
  | y :: xs, e :: ds, 0, x, d, _, h1, h2, h3 => by
    cases h1
    cases h2
    unfold bad1
    rw [h3]
    rfl
  | y :: xs, e :: ds, i + 1, x, d, up, h1, h2, h3 => by
    obtain ⟨e', he, fe⟩ := up 0 (Nat.succ_pos i)
    cases he
    unfold bad1
    rw [fe]
    exact bad1_at f xs ds i x d (fun j hj => up (j + 1) (Nat.succ_lt_succ hj)) h1 h2 h3
theorem bad1_none (f : PyData → Bool) : ∀ (xs : List V) (ds : List PyData), (∀ j, j < xs.length → ∃ d, ds[j]? = some d ∧ f d = true) → bad1 f xs ds = none
  | [], ds, _ => by cases ds <;> rfl
  | _ :: _, [], _ => rfl
  | y :: xs, e :: ds, up => by
    obtain ⟨e', he, fe⟩ := up 0 (Nat.succ_pos _)
    cases he
    unfold bad1
    rw [fe]
    exact bad1_none f xs ds fun j hj => up (j + 1) (Nat.succ_lt_succ hj)
theorem bad1_get (f : PyData → Bool) : ∀ (xs : List V) (ds : List PyData) (x : V) (d : PyData), bad1 f xs ds = some (x, d) → ∃ i : Nat, xs[i]? = some x ∧ ds[i]? = some d ∧ f d = false ∧ ∀ j, j < i → ∃ d, ds[j]? = some d ∧ f d = true
  | [], ds, _, _, h => by cases ds <;> cases h
  | _ :: _, [], _, _, h => by cases h
  | y :: xs, e :: ds, x, d, h => by
    unfold bad1 at h
    cases fe : f e with
    | false =>
      rw [fe] at h
      cases h
      exact ⟨0, rfl, rfl, fe, fun j hj => absurd hj (Nat.not_lt_zero j)⟩
    | true =>
      rw [fe] at h
      obtain ⟨i, h1, h2, h3, h4⟩ := bad1_get f xs ds x d h
      refine ⟨i + 1, h1, h2, h3, fun j hj => ?_⟩
      cases j with
      | zero => exact ⟨e, rfl, fe⟩
      | succ j => exact h4 j (Nat.lt_of_succ_lt_succ hj)
theorem bad1_all (f : PyData → Bool) : ∀ (xs : List V) (ds : List PyData), xs.length = ds.length → bad1 f xs ds = none → (ds.map f).all id = true
  | [], [], _, _ => rfl
  | [], _ :: _, l, _ => by cases l
  | _ :: _, [], l, _ => by cases l
  | y :: xs, e :: ds, l, h => by
    unfold bad1 at h
    cases fe : f e with
    | false =>
      rw [fe] at h
      cases h
    | true =>
      rw [fe] at h
      rw [List.map_cons, List.all_cons, fe]
      exact bad1_all f xs ds (Nat.succ.inj l) h
/-- what the law tells of the first that is none -/
inductive FB (H : Hp) (b : Bool) : V → V → Prop
  | other {x : V} (h : ∀ K, IsSeq K H x false) : FB H b x x
  | seq {a : Addr} {xs : List V} {ds : List PyData} (h : H a = some (.lst xs) ∨ H a = some (.tup xs)) (al : DzAll H xs ds) : FB H b (.ref a) (match bad1 (okD b) xs ds with | none => .str "none is" | some p => p.1)
section
variable {P : Program} {w : World} {K : PySem.W.Frag} {mg : Str → Option Value} {base : Heap} {c tb : Addr}
def spFirstBad (tb : Addr) : Sp := fun vs H Q _ => ∃ (x y : V) (b : Bool), vs = [x, .bl b] ∧ FB H b x y ∧ GxR.TabG H tb ∧ ∀ H', Nw tb H H' → Q y H'
theorem ok__law_first_bad (D : Defs K mg) (T : Tx K mg) : FnOk P w K mg base CX0 3 D._law_first_bad.f D._law_first_bad.fd ["_law_things", "_law_numbers"] (spFirstBad tb) := by
  have G_law_good := ok__law_good (P := P) (w := w) (base := base) D T
  have G_law_whole := ok__law_whole (P := P) (w := w) (base := base) D T
  refine D._law_first_bad.F.ok scLfirstbad (fun vs H Q E h => ?_) (fun cdv A outer s H vs Q E hr h => ?_)
  · obtain ⟨x, y, b, rfl, _⟩ := h
    rfl
  · obtain ⟨x, y, b, rfl, fb, tab, k⟩ := h
    refine ⟨_, (pss_cons (ps_if (pt_not (pt_val (pe_callB call_is_seq (by rfl) T.b_isinstance (by decide +kernel) (pa_cons (pv 0) (pa_cons (pe_tup (pa_cons (pe_bltn (v := .ty "list") (u := .type "list") (by rfl) T.b_list (by decide +kernel) rfl) (pa_cons (pe_bltn (v := .ty "tuple") (u := .type "tuple") (by rfl) T.b_tuple (by decide +kernel) rfl) pa_nil))) pa_nil))))) (pss_one (ps_ret (pv 0))) pss_nil)
        (pss_cons (ps_for PassesOwn.never rfl (pi_seq (pv 0)) (pg_name (i := 2) scLfirstbad.nd rfl (Or.inl rfl)) (pss_cons (ps_if (PW.pt (pw_and (pt_val (pv 1)) (pw_and1 (pt_not (PW.pt (pw_and (pt_val (pcall D._law_whole G_law_whole hr (by decide) (by rfl) (pa_cons (pv 2) pa_nil))) (pw_and1 (pt_chain op_le op_lt pe_int (pv 2) pe_int)))))))) (pss_one (ps_ret (pv 2))) pss_nil)
        (pss_one (ps_if (PW.pt (pw_and (pt_not (pt_val (pv 1))) (pw_and1 (pt_not (pt_val (pcall D._law_good G_law_good hr (by decide) (by rfl) (pa_cons (pv 2) pa_nil))))))) (pss_one (ps_ret (pv 2))) pss_nil))))
        (pss_one (ps_ret pe_str)))), ?_⟩
    refine ⟨_, rfl, (by show 2 ≤ sizeLine; decide), fun tp htp => ?_⟩
    have n1 := (Nw.refl tab).new htp (u := .tup [.ty "list", .ty "tuple"])
    have e1 : (upd H tp (.tup [.ty "list", .ty "tuple"])) tp = some (.tup [.ty "list", .ty "tuple"]) := upd_same
    generalize upd H tp (.tup [.ty "list", .ty "tuple"]) = H1 at n1 e1 ⊢
    cases fb with
    | other no => exact ⟨_, tp, _, rfl, e1, (no K).keep n1.keep, _, rfl, iteT ⟨_, rfl, k _ n1⟩⟩
    | @seq a xs ds hs al =>
      have hs1 : H1 a = some (.lst xs) ∨ H1 a = some (.tup xs) := by
        rcases hs with h | h
        · exact .inl (n1.lst h)
        · exact .inr (n1.tup h)
      have al1 := DzAll.keep n1.keep _ _ al
      refine ⟨_, tp, _, rfl, e1, isSeq_of hs1, _, rfl, iteF ?_⟩
      refine ⟨_, rfl, a, rfl, ?_⟩
      rcases hs1 with ha | ha
      · refine .inl ⟨⟨_, SqL.of ha⟩, for_list (K := K) (a := a) (xs := xs) (fun i σ H' => H' = H1 ∧ (∃ v2, σ = [some (.ref a), some (.bl b), v2]) ∧ ∀ j, j < i → ∃ d, ds[j]? = some d ∧ okD b d = true) ⟨rfl, ⟨_, rfl⟩, fun j hj => absurd hj (Nat.not_lt_zero j)⟩ (fun i σ H' _ q => by rw [q.1]; exact SqL.of ha) ?_ ?_⟩
        · rintro i x σ H' hx ⟨rfl, ⟨v2, rfl⟩, up⟩
          obtain ⟨d, hd, dz⟩ := al1.get hx
          have up2 : okD b d = true → ∀ j, j < i + 1 → ∃ d, ds[j]? = some d ∧ okD b d = true := fun e j hj => by
            rcases Nat.lt_succ_iff_lt_or_eq.mp hj with l | rfl
            · exact up j l
            · exact ⟨d, hd, e⟩
          have out : okD b d = false → Q x H' := fun e => by
            have := bad1_at (okD b) xs ds i x d up hx hd e
            rw [this] at k
            exact k _ n1
          cases b with
          | true =>
            refine ⟨_, rfl, _, rfl, iteT ⟨_, rfl, x, rfl, dz.thing, _, rfl, ?_⟩⟩
            cases dz with
            | int n =>
              refine iteT ⟨_, rfl, _, _, rfl, rfl, _, rfl, ?_⟩
              refine ite2 (fun y1 => ?_) (fun y1 => ⟨_, rfl, iteT ⟨_, rfl, out ?_⟩⟩)
              · refine ⟨_, _, rfl, rfl, _, rfl, ?_⟩
                cases y2 : decide (n < 400) with
                | true => exact iteF ⟨_, rfl, _, rfl, iteF ⟨rfl, ⟨_, rfl⟩, up2 (by show (decide (0 ≤ n) && decide (n < 400)) = true; rw [y1, y2]; rfl)⟩⟩
                | false => exact iteT ⟨_, rfl, out (by show (decide (0 ≤ n) && decide (n < 400)) = false; rw [y1, y2]; rfl)⟩
              · show (decide (0 ≤ n) && decide (n < 400)) = false
                rw [Bool.not_eq_true] at y1
                rw [y1]
                rfl
            | _ => exact iteF (iteT ⟨_, rfl, out rfl⟩)
          | false =>
            refine ⟨_, rfl, _, rfl, iteF ⟨_, rfl, _, rfl, iteT ⟨_, rfl, x, d, rfl, dz, _, rfl, ?_⟩⟩⟩
            cases g : goodD d with
            | true => exact iteF ⟨rfl, ⟨_, rfl⟩, up2 g⟩
            | false => exact iteT ⟨_, rfl, out g⟩
        · rintro σ H' ⟨rfl, ⟨v2, rfl⟩, up⟩
          rw [bad1_none (okD b) xs ds (fun j hj => up j hj)] at k
          exact k _ n1
      · refine .inr ⟨⟨_, SqT.of ha⟩, for_tup (K := K) (a := a) (xs := xs) (fun i σ H' => H' = H1 ∧ (∃ v2, σ = [some (.ref a), some (.bl b), v2]) ∧ ∀ j, j < i → ∃ d, ds[j]? = some d ∧ okD b d = true) ⟨rfl, ⟨_, rfl⟩, fun j hj => absurd hj (Nat.not_lt_zero j)⟩ (fun i σ H' _ q => by rw [q.1]; exact SqT.of ha) ?_ ?_⟩
        · rintro i x σ H' hx ⟨rfl, ⟨v2, rfl⟩, up⟩
          obtain ⟨d, hd, dz⟩ := al1.get hx
          have up2 : okD b d = true → ∀ j, j < i + 1 → ∃ d, ds[j]? = some d ∧ okD b d = true := fun e j hj => by
            rcases Nat.lt_succ_iff_lt_or_eq.mp hj with l | rfl
            · exact up j l
            · exact ⟨d, hd, e⟩
          have out : okD b d = false → Q x H' := fun e => by
            have := bad1_at (okD b) xs ds i x d up hx hd e
            rw [this] at k
            exact k _ n1
          cases b with
          | true =>
            refine ⟨_, rfl, _, rfl, iteT ⟨_, rfl, x, rfl, dz.thing, _, rfl, ?_⟩⟩
            cases dz with
            | int n =>
              refine iteT ⟨_, rfl, _, _, rfl, rfl, _, rfl, ?_⟩
              refine ite2 (fun y1 => ?_) (fun y1 => ⟨_, rfl, iteT ⟨_, rfl, out ?_⟩⟩)
              · refine ⟨_, _, rfl, rfl, _, rfl, ?_⟩
                cases y2 : decide (n < 400) with
                | true => exact iteF ⟨_, rfl, _, rfl, iteF ⟨rfl, ⟨_, rfl⟩, up2 (by show (decide (0 ≤ n) && decide (n < 400)) = true; rw [y1, y2]; rfl)⟩⟩
                | false => exact iteT ⟨_, rfl, out (by show (decide (0 ≤ n) && decide (n < 400)) = false; rw [y1, y2]; rfl)⟩
              · show (decide (0 ≤ n) && decide (n < 400)) = false
                rw [Bool.not_eq_true] at y1
                rw [y1]
                rfl
            | _ => exact iteF (iteT ⟨_, rfl, out rfl⟩)
          | false =>
            refine ⟨_, rfl, _, rfl, iteF ⟨_, rfl, _, rfl, iteT ⟨_, rfl, x, d, rfl, dz, _, rfl, ?_⟩⟩⟩
            cases g : goodD d with
            | true => exact iteF ⟨rfl, ⟨_, rfl⟩, up2 g⟩
            | false => exact iteT ⟨_, rfl, out g⟩
        · rintro σ H' ⟨rfl, ⟨v2, rfl⟩, up⟩
          rw [bad1_none (okD b) xs ds (fun j hj => up j hj)] at k
          exact k _ n1
end
end LL
namespace LL
open PySem PySem.Spec PyProof.Rows L2
/-! ### sum(elt for x in xs), xs a list, elt reads what stands and makes whole numbers -/
/-- the element over one thing of the list -/
def EltN (prog : Program) (w : World) (scope : Scope) (x : Str) (elt : Expr) (P : Addr) (h0 : Heap) (v : Value) (n : Int) : Prop :=
  ∀ (ce : Env) (B : Around) (Ex : Value → Shared → Prop) (r : Shared) (mm : Str → Option Value),
    ce.scope = scope → B.handled = none → (∀ b o, b ≠ P → h0.get? b = some o → r.heap.get? b = some o) → r.heap.Ns ce.locals mm →
    mm x = some v → wpAny (model prog w) B (eval elt ce) (fun z r' => (∃ t, z = .int n t) ∧ Keeps r r') Ex r
def sumTo (f : Nat → Int) : Nat → Int
  | 0 => 0
  | n + 1 => sumTo f n + f n
section
variable {X : Cx} {pins : List (Addr × Obj)} {σ : L2.St} {H : Hp} {s : Shared}
theorem gen_num {c P : Addr} {elt iter : Expr} {x : Str} {px gpos : Pos} {scope : Scope}
    {te : TE} {k : Nat} {Q' : Value → Shared → Prop} {R : Addr → List V → (Nat → Int) → Hp → Prop}
    (room : Room k X.A) (tabB : GxR.TabB X.base X.mg c P) (code_ : X.env.code = .ref c) (S : GxR.GenS X.env scope x)
    (it_ : PE X iter te)
    (fold_ : ∀ v, genFold iter X.env v = pure v) (I : Inv X pins σ H s)
    (h : te σ H fun v H1 => ∃ (a : Addr) (xs : List V) (val : Nat → Int), v = .ref a ∧ SqL X.K H1 a xs ∧ GxR.TabG H1 P ∧
      (∀ (pins : List (Addr × Obj)) (σ : L2.St) (s1 : Shared), Inv X pins σ H1 s1 → ∀ (i : Nat) (y : V) (v : Value), xs[i]? = some y → RelV y v → EltN X.prog X.w scope x elt P s1.heap v (val i)) ∧ R a xs val H1)
    (fin : ∀ a xs val H1 g s5, R a xs val H1 → (∃ fp wr G Pw St, WalksS X.prog X.w X.A.in1 g fp wr G xs.length Pw St ∧ (∀ i v, Pw i v → ∃ t, v = .int (val i) t) ∧ St 0 s5 ∧ (∀ b ∈ fp, b < s5.heap.objs.size) ∧
      ∀ s9, Moved wr G s5 s9 → ∃ H2, GxR.Tabbed P H1 H2 ∧ Inv X pins σ H2 s9) → Q' (.ref g) s5) :
    wpAny (model X.prog X.w) X.A (eval (.GeneratorExp elt [⟨.Name x px, iter, [], 0⟩] scope gpos) X.env) Q' X.xe s := by
  refine wpAny_GeneratorExp_walksQ room.hd S.co (closure_ok S.free) S.cell S.dot S.loc S.kind
    (by have := room.dp; omega) ?_ fold_
  refine thn (it_.run pins s σ H _ I h) fun vx r1 ⟨v, H1, J, rel, want⟩ => ?_
  obtain ⟨a, xs, val, rfl, sq, ⟨tb, hTP, htri⟩, hel, want⟩ := want
  obtain rfl : vx = Value.ref a := rel
  obtain ⟨its, rels, pl, _⟩ := J.list sq
  refine wpAny_pyIter_list pl.isList ?_
  have tabS : r1.heap.get? P = some { cls := .none, data := .fields tb } := J.hok P _ hTP
  have ltP : P < r1.heap.objs.size := Heap.lt_size tabS
  generalize hob : ({ cls := .type "list_iterator", data := .fields #[.ref a, .int 0 0] } : Obj) = ob
  have tabN : (r1.heap.push ob).get? P = some { cls := .none, data := .fields tb } := Heap.get?_push_of_some _ tabS
  have hdN : PySem.W.CodeHd (r1.heap.push ob) c P :=
    tabB.code.keeps fun b' u' e' => Heap.get?_push_of_some _ (J.bk b' u' e')
  have limN : (r1.heap.push ob).NoLimit := J.nolimit.push ob
  have aP : a ≠ P := fun z => by
    obtain ⟨o', e', c', _⟩ := pl.isList
    rw [z, tabS] at e'
    cases e'
    cases c'
  have aI : a ≠ r1.heap.objs.size := fun z => by
    obtain ⟨o', e', c', _⟩ := pl.isList
    rw [z] at e'
    exact absurd (Heap.lt_size e') (Nat.lt_irrefl _)
  have obN : (r1.heap.push ob).get? r1.heap.objs.size = some ob := Heap.get?_push_size _ (by rw [← hob]; rfl)
  have Wk : ∀ A2 : Around, A2.handled = none → Walks X.prog X.w A2 r1.heap.objs.size [r1.heap.objs.size, a] [r1.heap.objs.size] its.toArray.size (fun i v => its.toArray[i]? = some v) (fun i h => h.IsListIter r1.heap.objs.size a i ∧ h.IsList a its.toArray) :=
    fun A2 hd => Walks.list hd r1.heap.objs.size a aI its.toArray
  have hst0 : (r1.heap.push ob).IsListIter r1.heap.objs.size a 0 ∧ (r1.heap.push ob).IsList a its.toArray := by
    refine ⟨⟨ob, obN, by rw [← hob], by rw [← hob]; rfl⟩, ?_⟩
    obtain ⟨o', e', r'⟩ := pl.isList
    exact ⟨o', Heap.get?_push_of_some _ e', r'⟩
  refine ⟨limN, ?_⟩
  have onward : ∀ (cv : Value) (h3 : Heap) (n3 : Nat) (tb' : Array Value), Heap.ExtBut P (r1.heap.push ob) h3 →
      (r1.heap.push ob).objs.size ≤ h3.objs.size → h3.get? P = some { cls := .none, data := .fields tb' } →
      (∃ more, tb' = tb ++ more) → TriplesOk tb'.toList →
      wpAny (model X.prog X.w) X.A (builtinsFor X.env.globals X.env.builtins) (fun bi s4 =>
        ∃ Ia fp wr n₀ Pf St₀ pz F, Value.ref r1.heap.objs.size = .ref Ia ∧
          (∀ A2 : Around, A2.handled = none → Walks X.prog X.w A2 Ia fp wr n₀ Pf St₀) ∧ St₀ 0 s4.heap ∧
          (∀ b' ∈ fp, b' < s4.heap.objs.size) ∧ s4.heap.NoLimit ∧ cStatics ∉ wr ∧
          (∀ hr : Heap, (∀ b' o', s4.heap.get? b' = some o' → hr.get? b' = some o') →
            QuietGen X.prog X.w
              (genEnv scope (cloFrom X.env.cells scope.names []) s4.heap.objs.size cv bi X.env)
              x [] elt (List.range s4.heap.objs.size) wr Pf pz F hr) ∧
          (∀ a' h5 n5 gs, gs.bare = true → s4.heap.objs.size < a' → h5.objs.size = a' + 1 →
            (∀ b' o', s4.heap.get? b' = some o' → h5.get? b' = some o') →
            WalksS X.prog X.w X.A.in4 a' (a' :: s4.heap.objs.size :: List.range s4.heap.objs.size)
              (s4.heap.objs.size :: wr) (GenOnlyQ s4.gens.size) (passing pz n₀ 0).length
              (fun i' y' => ∃ i, (passing pz n₀ 0)[i']? = some i ∧ F i y')
              (GenAt X.prog X.w X.A.in4 a' s4.gens.size s4.heap.objs.size
                (List.range s4.heap.objs.size) wr pz n₀ F) →
            GenAt X.prog X.w X.A.in4 a' s4.gens.size s4.heap.objs.size
              (List.range s4.heap.objs.size) wr pz n₀ F 0
              { s4 with gens := s4.gens.push gs, toks := n5, heap := h5 } →
            Q' (.ref a') { s4 with gens := s4.gens.push gs, toks := n5, heap := h5 })) X.xe
        { r1 with heap := h3, toks := n3 } := by
    intro cv h3 n3 tb' ext sz3 tab3 grew tri3
    obtain ⟨bm, mo, f1, f2, f3, f4, f5, f6, f7, f8⟩ := tabB.bm
    have statP : cStatics ≠ P := fun z => by
      obtain ⟨_, hns, _⟩ := J.nolimit
      obtain ⟨_, _, _, ho, hd, _⟩ := hns
      rw [z, tabS] at ho
      cases ho
      cases hd
    have statL : cStatics < r1.heap.objs.size := by
      obtain ⟨_, hns, _⟩ := J.nolimit
      exact hns.lt
    have szN : (r1.heap.push ob).objs.size = r1.heap.objs.size + 1 := Heap.size_push ..
    have old3 : ∀ b' u', b' ≠ P → r1.heap.get? b' = some u' → h3.get? b' = some u' :=
      fun b' u' ne e' => ext b' u' ne (Heap.get?_push_of_some _ e')
    have ltA : a < r1.heap.objs.size := by
      obtain ⟨o', e', _⟩ := pl.isList
      exact Heap.lt_size e'
    refine wpAny_builtinsFor (m := X.mg)
      (by rw [J.ok.glob]; exact ((J.mod.glob.keeps J.bk).push ob).extBut ext tabB.gP)
      f1 f2 (old3 _ _ f4 (J.bk _ _ f5)) f6 f7 f8 ?_
    have lenI : its.toArray.size = xs.length := by rw [List.size_toArray, ← rels.length]
    refine ⟨r1.heap.objs.size, [r1.heap.objs.size, a], [r1.heap.objs.size], its.toArray.size, _, _, (fun _ => true),
      (fun i z => ∃ t, z = .int (val i) t), rfl, Wk, ?_, ?_, limN.extBut ext statP, ?_, ?_, ?_⟩
    · refine (Wk X.A room.hd).frame _ _ _ hst0 fun b' mem' u' e' => ext b' u' (fun z => ?_) e'
      rcases List.mem_cons.mp mem' with z2 | z2
      · exact Nat.ne_of_lt ltP (z.symm.trans z2)
      · exact aP ((List.mem_singleton.mp z2).symm.trans z)
    · intro b' mem'
      rcases List.mem_cons.mp mem' with z | z
      · rw [z]
        exact Nat.lt_of_lt_of_le (by rw [szN]; exact Nat.lt_succ_self _) sz3
      · rw [List.mem_singleton.mp z]
        exact Nat.lt_of_lt_of_le (Nat.lt_trans ltA (by rw [szN]; exact Nat.lt_succ_self _)) sz3
    · intro mem'
      rcases List.mem_cons.mp mem' with z | z
      · exact Nat.ne_of_lt statL z
      · cases z
    · intro hr hhr
      refine ⟨fun A2 E2 i v' s2 m2 _ _ _ _ _ => ?_, fun A2 E2 i v' s2 m2 hd2 at_ _ ns2 m2x keep2 => ?_⟩
      · simp only [List.forIn_nil]
        exact wpAny_pure ⟨rfl, GxR.keeps_refl _⟩
      · have lt : i < xs.length := by rw [← lenI]; exact (Array.getElem?_eq_some_iff.mp at_).1
        obtain ⟨u, hu, ru⟩ := rels.get (List.getElem?_eq_getElem lt)
        have e : u = v' := by
          have at2 : its[i]? = some v' := by rw [← Array.getElem?_toList] at at_; exact at_
          rw [hu] at at2
          exact Option.some.inj at2
        subst e
        refine hel _ _ r1 J i _ u (List.getElem?_eq_getElem lt) ru _ A2 E2 s2 m2 rfl hd2 (fun b o ne e' => ?_) ns2 m2x
        have ltb := Heap.lt_size e'
        refine keep2 b (List.mem_range.mpr ?_) ?_ o (hhr b o (old3 b o ne e'))
        · exact Nat.lt_of_lt_of_le ltb (Nat.le_trans (by rw [szN]; exact Nat.le_succ _) sz3)
        · intro z
          rcases List.mem_cons.mp z with z | z
          · exact Nat.ne_of_lt ltb z
          · cases z
    · intro g h5 n5 gs bare5 above5 sz5 keep5 W5 gat
      simp only [GxR.passing_true, List.length_range, lenI] at W5
      rw [lenI] at gat
      have a5 : h3.objs.size < g := above5
      have s5 : h5.objs.size = g + 1 := sz5
      refine fin a xs val H1 g _ want ⟨_, _, _, _, _, W5.in4_1, ?_, gat, ?_, fun s9 mv => ?_⟩
      · rintro i' z ⟨i, hi, t, rfl⟩
        obtain ⟨_, ei⟩ := List.getElem?_eq_some_iff.mp hi
        rw [List.getElem_range] at ei
        subst ei
        exact ⟨t, rfl⟩
      · intro b mem
        show b < h5.objs.size
        rw [s5]
        rcases List.mem_cons.mp mem with z | z
        · rw [z]
          exact Nat.lt_succ_self _
        · rcases List.mem_cons.mp z with z | z
          · have z : b = h3.objs.size := z
            rw [z]
            exact Nat.lt_succ_of_lt a5
          · have z : b < h3.objs.size := List.mem_range.mp z
            exact Nat.lt_succ_of_lt (Nat.lt_trans z a5)
      · obtain ⟨more, em⟩ := grew
        have apart : ∀ b' u', r1.heap.get? b' = some u' → b' ∉ h3.objs.size :: [r1.heap.objs.size] := fun b' u' e' mem' => by
          have lt' := Heap.lt_size e'
          have sz9 : r1.heap.objs.size + 1 ≤ h3.objs.size := szN ▸ sz3
          rcases List.mem_cons.mp mem' with z | z
          · rw [z] at lt'
            exact absurd (Nat.lt_trans lt' (Nat.lt_of_lt_of_le (Nat.lt_succ_self _) sz9)) (Nat.lt_irrefl _)
          · rcases List.mem_cons.mp z with z | z
            · rw [z] at lt'
              exact Nat.lt_irrefl _ lt'
            · cases z
        have J9 := GxR.inv_tab (more := more) (h' := s9.heap) (g' := s9.gens) (d' := s9.drawn) (t' := s9.toks) J hTP
          (fun b' u' ne e' => mv.heap b' u' (apart b' u' e') (keep5 b' u' (old3 b' u' ne e')))
          (by rw [← em]; exact mv.heap P _ (apart P _ tabS) (keep5 P _ tab3)) (AllBare.movedS (J.bare.push bare5) mv)
        rw [GxR.sh_eta r1 s9 mv.os] at J9
        exact ⟨upd H1 P (.tbl (tb ++ more)), ⟨⟨tb ++ more, upd_same, by rw [← em]; exact tri3⟩, fun b' ne => upd_ne ne⟩, J9⟩
  cases seek : codeAmong gpos tb.toList with
  | none =>
    refine wpAny_genexprCodeX code_ (hdN.code tabN htri) (hdN.tab tabN) seek fun c' h' n' ext ge lt hco' _ htab' _ => ?_
    obtain ⟨_, _, _, _, _, _, _, _, _, _, _, _, _, _, _, _, _, _, _, tri', _⟩ := hco'
    exact onward _ h' n' _ ext (Nat.le_trans ge (Nat.le_of_lt lt)) htab'.2 ⟨_, rfl⟩ tri'
  | some cv =>
    refine wpAny_genexprCode_hit code_ (hdN.code tabN htri) seek ?_
    exact onward cv (r1.heap.push ob) r1.toks tb (Heap.ExtBut.refl _ _) (Nat.le_refl _) tabN ⟨#[], by simp⟩ htri
/-- sum(elt for x in xs), a list -/
def tSumL (X : Cx) (P : Addr) (scope : Scope) (x : Str) (elt : Expr) (te : TE) : TE := fun σ H Q =>
  te σ H fun v H1 => ∃ (a : Addr) (xs : List V) (val : Nat → Int), v = .ref a ∧ SqL X.K H1 a xs ∧ GxR.TabG H1 P ∧
    (∀ (pins : List (Addr × Obj)) (σ : L2.St) (s1 : Shared), Inv X pins σ H1 s1 → ∀ (i : Nat) (y : V) (v : Value), xs[i]? = some y → RelV y v → EltN X.prog X.w scope x elt P s1.heap v (val i)) ∧
    (∀ j, j < xs.length → InLong (val j) ∧ InLong (preSum val (j + 1))) ∧
    ∀ H2, GxR.Tabbed P H1 H2 → Q (.int (preSum val xs.length)) H2
theorem pe_sumL {c P : Addr} {elt iter : Expr} {x : Str} {px p pos gpos : Pos} {scope : Scope}
    {te : TE} {k : Nat} (room : Room k X.A) (hg : Gl X "sum") (hm : X.mg "sum" = none)
    (hb : bootBuiltins "sum" = some (.builtin "sum")) (tabB : GxR.TabB X.base X.mg c P) (code_ : X.env.code = .ref c)
    (S : GxR.GenS X.env scope x) (it_ : PE X iter te)
    (fold_ : ∀ v, genFold iter X.env v = pure v)
    (he : starEach [.GeneratorExp elt [⟨.Name x px, iter, [], 0⟩] scope gpos] X.env =
      (false, eval (.GeneratorExp elt [⟨.Name x px, iter, [], 0⟩] scope gpos) X.env) :: starEach [] X.env := by rfl) :
    PE X (.Call (.Name "sum" p) [.GeneratorExp elt [⟨.Name x px, iter, [], 0⟩] scope gpos] [] pos) (tSumL X P scope x elt te) := by
  refine ⟨fun pins s σ H Q I h => ?_⟩
  refine wpAny_Call_Name_kw (ld_blt I hg hm hb ?_)
  refine PyProof.Rows.callWith_builtin1 ?_ he (by rfl)
  rw [he]
  refine (show wpAny _ _ (spliced ((false, eval (.GeneratorExp elt [⟨.Name x px, iter, [], 0⟩] scope gpos) X.env) ::
    backTo pos (starEach [] X.env))) _ _ s from ?_)
  refine Calls.spliced_cons (gen_num (R := fun a xs val H1 => (∀ j, j < xs.length → InLong (val j) ∧ InLong (preSum val (j + 1))) ∧ ∀ H2, GxR.Tabbed P H1 H2 → Q (.int (preSum val xs.length)) H2)
    room tabB code_ S it_ fold_ I h fun a xs val H1 g s5 hR rd => ?_)
  obtain ⟨fp, wr, G, Pw, St, Wg, hP, hst, lt, back⟩ := rd
  refine Calls.spliced_nil ?_
  refine call_sum_walkS (Wg.self 0 _ _ _ hst ⟨g, fp, wr, G, _, _, St, val, rfl, Wg, hst, lt, hP, hR.1, fun s9 t9 mv => ?_⟩)
  obtain ⟨H2, tbd, J⟩ := back s9 mv
  exact ⟨.int _, H2, J, ⟨t9, rfl⟩, hR.2 H2 tbd⟩
end
end LL
namespace LL
open PySem PySem.Spec PyProof.Rows L2
/-! ### what the drawn things are -/
mutual
/-- no list of three numbers in it -/
def nbD : PyData → Bool
  | .list [.int _, .int _, .int _] => false
  | .list ds => nbAll ds
  | .tuple ds => nbAll ds
  | _ => true
def nbAll : List PyData → Bool
  | [] => true
  | d :: ds => nbD d && nbAll ds
end
theorem Kept.other {a q : Addr} {H H' : Hp} {u : HO} (x : Kept a H H') (b : Bx H a) (e : H q = some u) (n : ∀ i j k : Int, u ≠ .lst [.int i, .int j, .int k]) : H' q = some u := by
  refine x.old q u (fun z => ?_) e
  obtain ⟨o, ea, x0, y0, z0, rfl, _⟩ := b
  rw [z, ea] at e
  cases e
  exact n _ _ _ rfl
theorem nb_list {H : Hp} {xs : List V} {ds : List PyData} (h : nbD (.list ds) = true) (al : DzAll H xs ds) : (∀ i j k : Int, HO.lst xs ≠ .lst [.int i, .int j, .int k]) ∧ nbAll ds = true := by
  constructor
  · intro i j k e
    cases e
    match ds, al with
    | [d1, d2, d3], .cons h1 (.cons h2 (.cons h3 .nil)) =>
      cases h1
      cases h2
      cases h3
      cases h
  · unfold nbD at h
    split at h
    · cases h
    · rename_i e
      cases e
      exact h
    · rename_i e
      cases e
    · rename_i p q r
      exact (q ds rfl).elim
mutual
theorem Dz.kept {a : Addr} {H H' : Hp} (k : Kept a H H') (b : Bx H a) : ∀ (d : PyData) (v : V), Dz H v d → nbD d = true → Dz H' v d
  | _, _, .non, _ => .non
  | _, _, .bl b, _ => .bl b
  | _, _, .int i, _ => .int i
  | _, _, .str x, _ => .str x
  | .list ds, _, .lst h t, n => .lst (k.other b h (nb_list n t).1) (DzAll.kept k b _ _ t (nb_list n t).2)
  | .tuple ds, _, .tup h t, n => .tup (k.other b h (fun _ _ _ z => by cases z)) (DzAll.kept k b _ _ t (by unfold nbD at n; exact n))
  | _, _, .dct h, _ => .dct (k.other b h (fun _ _ _ z => by cases z))
theorem DzAll.kept {a : Addr} {H H' : Hp} (k : Kept a H H') (b : Bx H a) : ∀ (ds : List PyData) (vs : List V), DzAll H vs ds → nbAll ds = true → DzAll H' vs ds
  | _, _, .nil, _ => .nil
  | d :: ds, _, .cons h t, n => by
    unfold nbAll at n
    rw [Bool.and_eq_true] at n
    exact .cons (Dz.kept k b _ _ h n.1) (DzAll.kept k b _ _ t n.2)
end
mutual
theorem Dz.dp {K : PySem.W.Frag} {H : Hp} : ∀ (d : PyData) (v : V), Dz H v d → d.hasDict = false → Dp K H v d
  | _, _, .non, _ => .non
  | _, _, .bl b, _ => .bl b
  | _, _, .int i, _ => .int i
  | _, _, .str x, _ => .str x
  | .list ds, _, .lst h t, n => .lst (SqL.of h) (DzAll.dp _ _ t (by simpa only [PyData.hasDict] using n))
  | .tuple ds, _, .tup h t, n => .tup (SqT.of h) (DzAll.dp _ _ t (by simpa only [PyData.hasDict] using n))
theorem DzAll.dp {K : PySem.W.Frag} {H : Hp} : ∀ (ds : List PyData) (vs : List V), DzAll H vs ds → PyData.hasDictAll ds = false → DpAll K H vs ds
  | _, _, .nil, _ => .nil
  | d :: ds, _, .cons h t, n => by
    simp only [PyData.hasDictAll, Bool.or_eq_false_iff] at n
    exact .cons (Dz.dp _ _ h n.1) (DzAll.dp _ _ t n.2)
end
def noneIs : Str := "none is"
/-- another thing than the law's own word -/
def notW (d : PyData) : Prop := d = .dict [] ∨ (d.hasDict = false ∧ SeqAt.shaped d = true ∧ PyData.eqv d (.str noneIs) = false)
theorem Dz.eqS {K : PySem.W.Frag} {H : Hp} {v : V} {d : PyData} (h : Dz H v d) (n : notW d) : EqS K H noneIs v false := by
  rcases n with rfl | ⟨n1, n2, n3⟩
  · cases h with
    | dct h => exact .dic h
  · have := EqS.dat (k := noneIs) (Dz.dp (K := K) _ _ h n1) n2
    rw [n3] at this
    exact this
structure ThD (d : PyData) : Prop where
  sz : Sz d 3 300
  nb : nbD d = true
  nw : notW d
theorem szN {n : Nat} (h : n ≤ 1000) : Sz (.int (n : Int)) 0 10 := by
  refine ⟨(sm_nat h).sh, ?_, by simp only [PyData.depth]; exact Nat.le_refl _, (sm_nat h).wt⟩
  simp only [PyData.leavesShort]
  exact decide_eq_true (Nat.le_trans (short_nat n (by omega)) (by decide))
theorem sz2 {n m : Nat} (h : n ≤ 1000) (h2 : m ≤ 1000) : SzAll [.int (n : Int), .int (m : Int)] 2 300 :=
  (SzAll.cons (szN h) (SzAll.cons (szN h2) szAll_nil)).mono (by decide) (by decide)
theorem th_int {n : Nat} (h : n ≤ 1000) : ThD (.int (n : Int)) := ⟨(szN h).mono (by decide) (by decide), rfl, .inr ⟨by simp [PyData.hasDict], by simp [SeqAt.shaped, PyData.canLay0, PyData.depth], by simp [PyData.eqv]⟩⟩
theorem th_pr {n m : Nat} (h : n ≤ 1000) (h2 : m ≤ 1000) : ThD (.tuple [.int (n : Int), .int (m : Int)]) := ⟨(sz2 h h2).tuple, rfl, .inr ⟨by simp [PyData.hasDict, PyData.hasDictAll], by simp [SeqAt.shaped, PyData.canLay0, PyData.canLayAll0, PyData.depth, PyData.depthAll], by simp [PyData.eqv]⟩⟩
theorem th_ls {n m : Nat} (h : n ≤ 1000) (h2 : m ≤ 1000) : ThD (.list [.int (n : Int), .int (m : Int)]) := ⟨(sz2 h h2).list, rfl, .inr ⟨by simp [PyData.hasDict, PyData.hasDictAll], by simp [SeqAt.shaped, PyData.canLay0, PyData.canLayAll0, PyData.depth, PyData.depthAll], by simp [PyData.eqv]⟩⟩
theorem th_one {n : Nat} (h : n ≤ 1000) : ThD (.tuple [.int (n : Int)]) := ⟨((SzAll.cons (szN h) szAll_nil).mono (l := 2) (U := 300) (by decide) (by decide)).tuple, rfl, .inr ⟨by simp [PyData.hasDict, PyData.hasDictAll], by simp [SeqAt.shaped, PyData.canLay0, PyData.canLayAll0, PyData.depth, PyData.depthAll], by simp [PyData.eqv]⟩⟩
theorem th_three {n m : Nat} (h : n ≤ 1000) (h2 : m ≤ 1000) : ThD (.tuple [.int (n : Int), .int (m : Int), .int 0]) := ⟨((SzAll.cons (szN h) (SzAll.cons (szN h2) (SzAll.cons (szN (n := 0) (by decide)) szAll_nil))).mono (l := 2) (U := 300) (by decide) (by decide)).tuple, rfl, .inr ⟨by simp [PyData.hasDict, PyData.hasDictAll], by simp [SeqAt.shaped, PyData.canLay0, PyData.canLayAll0, PyData.depth, PyData.depthAll], by simp [PyData.eqv]⟩⟩
theorem th_lit {d : PyData} (h1 : d.showable = true) (h2 : d.leavesShort 60 = true) (h3 : decide (d.depth ≤ 3) = true) (h4 : decide (d.weight ≤ 300) = true) (h5 : nbD d = true) (h6 : d.hasDict = false) (h7 : SeqAt.shaped d = true) (h8 : PyData.eqv d (.str noneIs) = false) : ThD d :=
  ⟨⟨h1, h2, of_decide_eq_true h3, of_decide_eq_true h4⟩, h5, .inr ⟨h6, h7, h8⟩⟩
theorem th_dict : ThD (.dict []) := ⟨⟨by decide +kernel, by decide +kernel, by decide +kernel, by decide +kernel⟩, rfl, .inl rfl⟩
/-- the twenty things -/
def things (n : Nat) : List PyData := [.tuple [.int (n : Int), .int (n : Int)], .tuple [.int (n : Int), .int ((n + 1 : Nat) : Int)], .tuple [.int ((n + 1 : Nat) : Int), .int (n : Int)], .tuple [.int 0, .int 400], .tuple [.int 0, .int 401], .tuple [.int 399, .int 400], .tuple [.int (-1), .int 3], .tuple [.bool true, .int 5],
  .tuple [.bool false, .int 1], .list [.int (n : Int), .int ((n + 1 : Nat) : Int)], .tuple [.int (n : Int)], .tuple [.int (n : Int), .int ((n + 1 : Nat) : Int), .int 0], .none, .int (n : Int), .str "03", .dict [], .tuple [.int 0, .none],
  .tuple [.int 0, .str "1"], .tuple [.int 100000000000000000000, .int 100000000000000000001], .tuple []]
theorem things_ok {n : Nat} (h : n < 400) : ∀ d ∈ things n, ThD d := by
  unfold things
  simp only [List.forall_mem_cons]
  exact ⟨th_pr (by omega) (by omega), th_pr (by omega) (by omega), th_pr (by omega) (by omega), (th_lit (by decide +kernel) (by decide +kernel) (by decide +kernel) (by decide +kernel) (by decide +kernel) (by decide +kernel) (by decide +kernel) (by decide +kernel)), (th_lit (by decide +kernel) (by decide +kernel) (by decide +kernel) (by decide +kernel) (by decide +kernel) (by decide +kernel) (by decide +kernel) (by decide +kernel)), (th_lit (by decide +kernel) (by decide +kernel) (by decide +kernel) (by decide +kernel) (by decide +kernel) (by decide +kernel) (by decide +kernel) (by decide +kernel)), (th_lit (by decide +kernel) (by decide +kernel) (by decide +kernel) (by decide +kernel) (by decide +kernel) (by decide +kernel) (by decide +kernel) (by decide +kernel)), (th_lit (by decide +kernel) (by decide +kernel) (by decide +kernel) (by decide +kernel) (by decide +kernel) (by decide +kernel) (by decide +kernel) (by decide +kernel)), (th_lit (by decide +kernel) (by decide +kernel) (by decide +kernel) (by decide +kernel) (by decide +kernel) (by decide +kernel) (by decide +kernel) (by decide +kernel)), th_ls (by omega) (by omega), th_one (by omega), th_three (by omega) (by omega), (th_lit (by decide +kernel) (by decide +kernel) (by decide +kernel) (by decide +kernel) (by decide +kernel) (by decide +kernel) (by decide +kernel) (by decide +kernel)), th_int (by omega), (th_lit (by decide +kernel) (by decide +kernel) (by decide +kernel) (by decide +kernel) (by decide +kernel) (by decide +kernel) (by decide +kernel) (by decide +kernel)), th_dict, (th_lit (by decide +kernel) (by decide +kernel) (by decide +kernel) (by decide +kernel) (by decide +kernel) (by decide +kernel) (by decide +kernel) (by decide +kernel)), (th_lit (by decide +kernel) (by decide +kernel) (by decide +kernel) (by decide +kernel) (by decide +kernel) (by decide +kernel) (by decide +kernel) (by decide +kernel)), (th_lit (by decide +kernel) (by decide +kernel) (by decide +kernel) (by decide +kernel) (by decide +kernel) (by decide +kernel) (by decide +kernel) (by decide +kernel)), (th_lit (by decide +kernel) (by decide +kernel) (by decide +kernel) (by decide +kernel) (by decide +kernel) (by decide +kernel) (by decide +kernel) (by decide +kernel)), fun d hd => nomatch hd⟩
end LL
set_option maxHeartbeats 8000000
namespace LL
open PySem PySem.Spec PyProof.Rows L2
theorem DzAll.pick {H : Hp} {xs : List V} {ds : List PyData} (al : DzAll H xs ds) {m : Nat} (h : m < ds.length) : ∃ v d, atI xs (m : Int) = some v ∧ d ∈ ds ∧ Dz H v d := by
  have l : m < xs.length := by rw [al.len]; exact h
  obtain ⟨d, hd, dz⟩ := al.get (List.getElem?_eq_getElem l)
  exact ⟨xs[m], d, atI_nat (List.getElem?_eq_getElem l), List.mem_of_getElem? hd, dz⟩
section
variable {P : Program} {w : World} {K : PySem.W.Frag} {mg : Str → Option Value} {base : Heap} {c tb : Addr}
def spThing : Sp := fun vs H Q _ => ∃ a, vs = [.ref a] ∧ Bx H a ∧ ∀ x d H', Kept a H H' → Dz H' x d → ThD d → Q x H'
theorem ok__law_thing (D : Defs K mg) (T : Tx K mg) : FnOk P w K mg base CX0 2 D._law_thing.f D._law_thing.fd ["_law_box_here"] spThing := by
  have G_law_take := ok__law_take (P := P) (w := w) (base := base) D T
  refine D._law_thing.F.ok scLthing (fun vs H Q E h => ?_) (fun cdv A outer s H vs Q E hr h => ?_)
  · obtain ⟨a, rfl, _⟩ := h
    rfl
  · obtain ⟨a, rfl, b, k⟩ := h
    refine ⟨_, (pss_cons (ps_set (i := 1) scLthing.nd rfl (Or.inl rfl) (pcall D._law_take G_law_take hr (by decide) (by rfl) (pa_cons (pv 0) (pa_cons pe_int pa_nil))))
        (pss_cons (ps_set (i := 2) scLthing.nd rfl (Or.inl rfl) (pe_lst (pa_cons (pe_tup (pa_cons (pv 1) (pa_cons (pv 1) pa_nil))) (pa_cons (pe_tup (pa_cons (pv 1) (pa_cons (pe_op op_add (pv 1) pe_int) pa_nil))) (pa_cons (pe_tup (pa_cons (pe_op op_add (pv 1) pe_int) (pa_cons (pv 1) pa_nil))) (pa_cons (pe_tup (pa_cons pe_int (pa_cons pe_int pa_nil))) (pa_cons (pe_tup (pa_cons pe_int (pa_cons pe_int pa_nil))) (pa_cons (pe_tup (pa_cons pe_int (pa_cons pe_int pa_nil))) (pa_cons (pe_tup (pa_cons (pe_un un_neg pe_int) (pa_cons pe_int pa_nil))) (pa_cons (pe_tup (pa_cons pe_bl (pa_cons pe_int pa_nil))) pa_nil))))))))))
        (pss_cons (ps_set (i := 2) scLthing.nd rfl (Or.inl rfl) (pe_op op_cat (pv 2) (pe_lst (pa_cons (pe_tup (pa_cons pe_bl (pa_cons pe_int pa_nil))) (pa_cons (pe_lst (pa_cons (pv 1) (pa_cons (pe_op op_add (pv 1) pe_int) pa_nil))) (pa_cons (pe_tup (pa_cons (pv 1) pa_nil)) (pa_cons (pe_tup (pa_cons (pv 1) (pa_cons (pe_op op_add (pv 1) pe_int) (pa_cons pe_int pa_nil)))) (pa_cons pe_non (pa_cons (pv 1) (pa_cons pe_str (pa_cons pe_dnewK (pa_cons (pe_tup (pa_cons pe_int (pa_cons pe_non pa_nil))) pa_nil))))))))))))
        (pss_cons (ps_set (i := 2) scLthing.nd rfl (Or.inl rfl) (pe_op op_cat (pv 2) (pe_lst (pa_cons (pe_tup (pa_cons pe_int (pa_cons pe_str pa_nil))) (pa_cons (pe_tup (pa_cons (pe_op op_pow pe_int pe_int) (pa_cons (pe_op op_add (pe_op op_pow pe_int pe_int) pe_int) pa_nil))) (pa_cons (pe_tup pa_nil) pa_nil))))))
        (pss_one (ps_ret (pe_ix ix_list (pv 2) (pcall D._law_take G_law_take hr (by decide) (by rfl) (pa_cons (pv 0) (pa_cons (pe_callB call_len_seq (by rfl) T.b_len (by decide +kernel) (pa_cons (pv 2) pa_nil)) pa_nil))) (fun _ _ => rfl)))))))), ?_⟩
    refine ⟨_, rfl, a, 400, rfl, b, by decide, by decide, fun r H1 r0 r1 kp => ?_⟩
    obtain ⟨n, rfl⟩ := int_of r0
    have b1 : Bx H1 a := kp.bx
    refine ⟨_, rfl, _, rfl, (by show 2 ≤ sizeLine; decide), fun q1 hq1 => ?_⟩
    generalize hG : upd _ _ _ = G1
    obtain ⟨x1, w1⟩ := obj_of hq1 hG
    clear hG
    refine ⟨_, rfl, _, rfl, _, _, rfl, rfl, (by show 2 ≤ sizeLine; decide), fun q2 hq2 => ?_⟩
    generalize hG : upd _ _ _ = G2
    obtain ⟨x2, w2⟩ := obj_of hq2 hG
    clear hG
    refine ⟨_, rfl, _, _, rfl, rfl, _, rfl, (by show 2 ≤ sizeLine; decide), fun q3 hq3 => ?_⟩
    generalize hG : upd _ _ _ = G3
    obtain ⟨x3, w3⟩ := obj_of hq3 hG
    clear hG
    refine ⟨(by show 2 ≤ sizeLine; decide), fun q4 hq4 => ?_⟩
    generalize hG : upd _ _ _ = G4
    obtain ⟨x4, w4⟩ := obj_of hq4 hG
    clear hG
    refine ⟨(by show 2 ≤ sizeLine; decide), fun q5 hq5 => ?_⟩
    generalize hG : upd _ _ _ = G5
    obtain ⟨x5, w5⟩ := obj_of hq5 hG
    clear hG
    refine ⟨(by show 2 ≤ sizeLine; decide), fun q6 hq6 => ?_⟩
    generalize hG : upd _ _ _ = G6
    obtain ⟨x6, w6⟩ := obj_of hq6 hG
    clear hG
    refine ⟨_, rfl, (by show 2 ≤ sizeLine; decide), fun q7 hq7 => ?_⟩
    generalize hG : upd _ _ _ = G7
    obtain ⟨x7, w7⟩ := obj_of hq7 hG
    clear hG
    refine ⟨(by show 2 ≤ sizeLine; decide), fun q8 hq8 => ?_⟩
    generalize hG : upd _ _ _ = G8
    obtain ⟨x8, w8⟩ := obj_of hq8 hG
    clear hG
    refine ⟨(by show 8 ≤ sizeLine; decide), fun La hLa => ?_⟩
    generalize hG : upd _ _ _ = G9
    obtain ⟨x9, w9⟩ := obj_of hLa hG
    clear hG
    refine ⟨_, rfl, (by show 2 ≤ sizeLine; decide), fun q10 hq10 => ?_⟩
    generalize hG : upd _ _ _ = G10
    obtain ⟨x10, w10⟩ := obj_of hq10 hG
    clear hG
    refine ⟨_, rfl, _, rfl, _, _, rfl, rfl, (by show 2 ≤ sizeLine; decide), fun q11 hq11 => ?_⟩
    generalize hG : upd _ _ _ = G11
    obtain ⟨x11, w11⟩ := obj_of hq11 hG
    clear hG
    refine ⟨_, rfl, (by show 1 ≤ sizeLine; decide), fun q12 hq12 => ?_⟩
    generalize hG : upd _ _ _ = G12
    obtain ⟨x12, w12⟩ := obj_of hq12 hG
    clear hG
    refine ⟨_, rfl, _, rfl, _, _, rfl, rfl, (by show 3 ≤ sizeLine; decide), fun q13 hq13 => ?_⟩
    generalize hG : upd _ _ _ = G13
    obtain ⟨x13, w13⟩ := obj_of hq13 hG
    clear hG
    refine ⟨_, rfl, fun qd hqd => ?_⟩
    generalize hG : upd _ _ _ = G14
    obtain ⟨x14, w14⟩ := obj_of hqd hG
    clear hG
    refine ⟨(by show 2 ≤ sizeLine; decide), fun q15 hq15 => ?_⟩
    generalize hG : upd _ _ _ = G15
    obtain ⟨x15, w15⟩ := obj_of hq15 hG
    clear hG
    refine ⟨(by show 9 ≤ sizeLine; decide), fun Lb hLb => ?_⟩
    generalize hG : upd _ _ _ = G16
    obtain ⟨x16, w16⟩ := obj_of hLb hG
    clear hG
    refine ⟨La, Lb, _, _, rfl, rfl, ((x10.trans (x11.trans (x12.trans (x13.trans (x14.trans (x15.trans (x16))))))) _ _ w9), w16, (by show 17 ≤ sizeLine; decide), fun Lc hLc => ?_⟩
    generalize hG : upd _ _ _ = G17
    obtain ⟨x17, w17⟩ := obj_of hLc hG
    clear hG
    refine ⟨_, rfl, (by show 2 ≤ sizeLine; decide), fun q18 hq18 => ?_⟩
    generalize hG : upd _ _ _ = G18
    obtain ⟨x18, w18⟩ := obj_of hq18 hG
    clear hG
    refine ⟨_, _, rfl, rfl, ⟨by decide, by decide, by decide⟩, _, _, rfl, rfl, ⟨by decide, by decide, by decide⟩, _, _, rfl, rfl, (by show 2 ≤ sizeLine; decide), fun q19 hq19 => ?_⟩
    generalize hG : upd _ _ _ = G19
    obtain ⟨x19, w19⟩ := obj_of hq19 hG
    clear hG
    refine ⟨(by show 0 ≤ sizeLine; decide), fun q20 hq20 => ?_⟩
    generalize hG : upd _ _ _ = G20
    obtain ⟨x20, w20⟩ := obj_of hq20 hG
    clear hG
    refine ⟨(by show 3 ≤ sizeLine; decide), fun Ld hLd => ?_⟩
    generalize hG : upd _ _ _ = G21
    obtain ⟨x21, w21⟩ := obj_of hLd hG
    clear hG
    refine ⟨Lc, Ld, _, _, rfl, rfl, ((x18.trans (x19.trans (x20.trans (x21)))) _ _ w17), w21, (by show 20 ≤ sizeLine; decide), fun Le hLe => ?_⟩
    generalize hG : upd _ _ _ = G22
    obtain ⟨x22, w22⟩ := obj_of hLe hG
    clear hG
    have al : DzAll G22 _ (things n) := .cons (.tup ((x2.trans (x3.trans (x4.trans (x5.trans (x6.trans (x7.trans (x8.trans (x9.trans (x10.trans (x11.trans (x12.trans (x13.trans (x14.trans (x15.trans (x16.trans (x17.trans (x18.trans (x19.trans (x20.trans (x21.trans (x22))))))))))))))))))))) _ _ w1) (.cons (.int _) (.cons (.int _) .nil))) (.cons (.tup ((x3.trans (x4.trans (x5.trans (x6.trans (x7.trans (x8.trans (x9.trans (x10.trans (x11.trans (x12.trans (x13.trans (x14.trans (x15.trans (x16.trans (x17.trans (x18.trans (x19.trans (x20.trans (x21.trans (x22)))))))))))))))))))) _ _ w2) (.cons (.int _) (.cons (.int _) .nil))) (.cons (.tup ((x4.trans (x5.trans (x6.trans (x7.trans (x8.trans (x9.trans (x10.trans (x11.trans (x12.trans (x13.trans (x14.trans (x15.trans (x16.trans (x17.trans (x18.trans (x19.trans (x20.trans (x21.trans (x22))))))))))))))))))) _ _ w3) (.cons (.int _) (.cons (.int _) .nil))) (.cons (.tup ((x5.trans (x6.trans (x7.trans (x8.trans (x9.trans (x10.trans (x11.trans (x12.trans (x13.trans (x14.trans (x15.trans (x16.trans (x17.trans (x18.trans (x19.trans (x20.trans (x21.trans (x22)))))))))))))))))) _ _ w4) (.cons (.int _) (.cons (.int _) .nil))) (.cons (.tup ((x6.trans (x7.trans (x8.trans (x9.trans (x10.trans (x11.trans (x12.trans (x13.trans (x14.trans (x15.trans (x16.trans (x17.trans (x18.trans (x19.trans (x20.trans (x21.trans (x22))))))))))))))))) _ _ w5) (.cons (.int _) (.cons (.int _) .nil))) (.cons (.tup ((x7.trans (x8.trans (x9.trans (x10.trans (x11.trans (x12.trans (x13.trans (x14.trans (x15.trans (x16.trans (x17.trans (x18.trans (x19.trans (x20.trans (x21.trans (x22)))))))))))))))) _ _ w6) (.cons (.int _) (.cons (.int _) .nil))) (.cons (.tup ((x8.trans (x9.trans (x10.trans (x11.trans (x12.trans (x13.trans (x14.trans (x15.trans (x16.trans (x17.trans (x18.trans (x19.trans (x20.trans (x21.trans (x22))))))))))))))) _ _ w7) (.cons (.int _) (.cons (.int _) .nil))) (.cons (.tup ((x9.trans (x10.trans (x11.trans (x12.trans (x13.trans (x14.trans (x15.trans (x16.trans (x17.trans (x18.trans (x19.trans (x20.trans (x21.trans (x22)))))))))))))) _ _ w8) (.cons (.bl _) (.cons (.int _) .nil))) (.cons (.tup ((x11.trans (x12.trans (x13.trans (x14.trans (x15.trans (x16.trans (x17.trans (x18.trans (x19.trans (x20.trans (x21.trans (x22)))))))))))) _ _ w10) (.cons (.bl _) (.cons (.int _) .nil))) (.cons (.lst ((x12.trans (x13.trans (x14.trans (x15.trans (x16.trans (x17.trans (x18.trans (x19.trans (x20.trans (x21.trans (x22))))))))))) _ _ w11) (.cons (.int _) (.cons (.int _) .nil))) (.cons (.tup ((x13.trans (x14.trans (x15.trans (x16.trans (x17.trans (x18.trans (x19.trans (x20.trans (x21.trans (x22)))))))))) _ _ w12) (.cons (.int _) .nil)) (.cons (.tup ((x14.trans (x15.trans (x16.trans (x17.trans (x18.trans (x19.trans (x20.trans (x21.trans (x22))))))))) _ _ w13) (.cons (.int _) (.cons (.int _) (.cons (.int _) .nil)))) (.cons (.non) (.cons (.int _) (.cons (.str _) (.cons (.dct ((x15.trans (x16.trans (x17.trans (x18.trans (x19.trans (x20.trans (x21.trans (x22)))))))) _ _ w14)) (.cons (.tup ((x16.trans (x17.trans (x18.trans (x19.trans (x20.trans (x21.trans (x22))))))) _ _ w15) (.cons (.int _) (.cons (.non) .nil))) (.cons (.tup ((x19.trans (x20.trans (x21.trans (x22)))) _ _ w18) (.cons (.int _) (.cons (.str _) .nil))) (.cons (.tup ((x20.trans (x21.trans (x22))) _ _ w19) (.cons (.int _) (.cons (.int _) .nil))) (.cons (.tup ((x21.trans (x22)) _ _ w20) .nil) (.nil))))))))))))))))))))
    have ex : Exd H1 G22 := (x1.trans (x2.trans (x3.trans (x4.trans (x5.trans (x6.trans (x7.trans (x8.trans (x9.trans (x10.trans (x11.trans (x12.trans (x13.trans (x14.trans (x15.trans (x16.trans (x17.trans (x18.trans (x19.trans (x20.trans (x21.trans (x22))))))))))))))))))))))
    have be := b1.exd ex
    refine ⟨_, rfl, _, rfl, _, rfl, Le, _, rfl, .inl (SqL.of w22), a, 20, rfl, be, by decide, by decide, fun r2 H2 s0 s1 kp2 => ?_⟩
    obtain ⟨m, rfl⟩ := int_of s0
    obtain ⟨v, d, hv, hd, dz⟩ := al.pick (m := m) (by show m < 20; omega)
    have th := things_ok (n := n) (by omega) d hd
    exact ⟨Le, _, _, v, rfl, rfl, SqL.of (kp2.get be w22 rfl), hv, k v d H2 ((kp.trans (ex.kept b1)).trans kp2) (Dz.kept kp2 be _ _ dz th.nb) th⟩
/-- a drawn row, or what is none -/
structure RwD (d : PyData) : Prop where
  sz : Sz d 6 3000
  nb : nbD d = true
  kd : (∃ ds, (d = .list ds ∨ d = .tuple ds) ∧ (∀ e ∈ ds, ThD e) ∧ ds.length ≤ 9) ∨ (d = .none ∨ d = .str "rows" ∨ d = .dict [] ∨ d = .int 5)
theorem nbAll_of {ds : List PyData} (h : ∀ e ∈ ds, nbD e = true) : nbAll ds = true := by
  induction ds with
  | nil => rfl
  | cons d ds ih =>
    unfold nbAll
    rw [h d List.mem_cons_self, ih fun e he => h e (List.mem_cons_of_mem _ he)]
    rfl
theorem rw_tup {ds : List PyData} (h : ∀ e ∈ ds, ThD e) (l : ds.length ≤ 9) : RwD (.tuple ds) := by
  refine ⟨((szAll_of fun d hd => (h d hd).sz).tuple).mono (by decide) (by omega), ?_, .inl ⟨ds, .inr rfl, h, l⟩⟩
  unfold nbD
  exact nbAll_of fun e he => (h e he).nb
theorem rw_lst {ds : List PyData} (h : ∀ e ∈ ds, ThD e) (l : ds.length ≤ 9) (no : ∀ i j k : Int, ds ≠ [.int i, .int j, .int k]) : RwD (.list ds) := by
  refine ⟨((szAll_of fun d hd => (h d hd).sz).list).mono (by decide) (by omega), ?_, .inl ⟨ds, .inl rfl, h, l⟩⟩
  unfold nbD
  split
  · rename_i e
    cases e
    exact absurd rfl (no _ _ _)
  · rename_i e
    cases e
    exact nbAll_of fun e he => (h e he).nb
  · rename_i e
    cases e
  · rfl
end
end LL
set_option maxHeartbeats 8000000
namespace LL
open PySem PySem.Spec PyProof.Rows L2
theorem cut_to (xs : List V) (k : Nat) : cutV xs none (some (k : Int)) = xs.take k := by
  unfold cutV
  have s1 : HT.sIx xs.length 0 none = 0 := rfl
  have s2 : HT.sIx xs.length xs.length (some (k : Int)) = min k xs.length := HT.sIx_nat _ _ _
  rw [s1, s2, List.drop_zero, Nat.sub_zero]
  rcases Nat.le_total k xs.length with h | h
  · rw [Nat.min_eq_left h]
  · rw [Nat.min_eq_right h, List.take_of_length_le (Nat.le_refl _), List.take_of_length_le h]
theorem cut_from (xs : List V) (k : Nat) (h : k ≤ xs.length) : cutV xs (some (k : Int)) none = xs.drop k := by
  unfold cutV
  have s1 : HT.sIx xs.length 0 (some (k : Int)) = min k xs.length := HT.sIx_nat _ _ _
  have s2 : HT.sIx xs.length xs.length none = xs.length := rfl
  rw [s1, s2, Nat.min_eq_left h, List.take_of_length_le (by rw [List.length_drop]; exact Nat.le_refl _)]
theorem Exd.dz {H H' : Hp} {v : V} {d : PyData} (x : Exd H H') (h : Dz H v d) : Dz H' v d := Dz.keep (fun b o _ e => x b o e) _ _ h
theorem Exd.dzs {H H' : Hp} {v : List V} {d : List PyData} (x : Exd H H') (h : DzAll H v d) : DzAll H' v d := DzAll.keep (fun b o _ e => x b o e) _ _ h
theorem DzAll.take {H : Hp} : ∀ (k : Nat) {xs : List V} {ds : List PyData}, DzAll H xs ds → DzAll H (xs.take k) (ds.take k)
  | 0, _, _, _ => .nil
  | _ + 1, _, _, .nil => .nil
  | k + 1, _, _, .cons h t => .cons h (DzAll.take k t)
theorem DzAll.drop {H : Hp} : ∀ (k : Nat) {xs : List V} {ds : List PyData}, DzAll H xs ds → DzAll H (xs.drop k) (ds.drop k)
  | 0, _, _, h => h
  | _ + 1, _, _, .nil => .nil
  | k + 1, _, _, .cons h t => DzAll.drop k t
theorem DzAll.app {H : Hp} {xs ys : List V} {ds es : List PyData} (h : DzAll H xs ds) (t : DzAll H ys es) : DzAll H (xs ++ ys) (ds ++ es) := by
  induction xs generalizing ds with
  | nil => cases h; exact t
  | cons x xs ih =>
    cases h with
    | cons h r => exact .cons h (ih r)
def base3 : List PyData := [.tuple [.int 2, .int 4], .tuple [.int 6, .int 7], .tuple [.int 9, .int 15]]
theorem base3_ok : ∀ d ∈ base3, ThD d := by
  unfold base3
  simp only [List.forall_mem_cons]
  exact ⟨(th_lit (by decide +kernel) (by decide +kernel) (by decide +kernel) (by decide +kernel) (by decide +kernel) (by decide +kernel) (by decide +kernel) (by decide +kernel)), (th_lit (by decide +kernel) (by decide +kernel) (by decide +kernel) (by decide +kernel) (by decide +kernel) (by decide +kernel) (by decide +kernel) (by decide +kernel)), (th_lit (by decide +kernel) (by decide +kernel) (by decide +kernel) (by decide +kernel) (by decide +kernel) (by decide +kernel) (by decide +kernel) (by decide +kernel)), fun d hd => nomatch hd⟩
section
variable {P : Program} {w : World} {K : PySem.W.Frag} {mg : Str → Option Value} {base : Heap} {c tb : Addr}
def spRow : Sp := fun vs H Q _ => ∃ a, vs = [.ref a] ∧ Bx H a ∧ ∀ x d H', Kept a H H' → Dz H' x d → RwD d → Q x H'
theorem ok__law_row (D : Defs K mg) (T : Tx K mg) : FnOk P w K mg base CX0 3 D._law_row.f D._law_row.fd ["_law_box_here"] spRow := by
  have G_law_take := ok__law_take (P := P) (w := w) (base := base) D T
  have G_law_thing := ok__law_thing (P := P) (w := w) (base := base) D T
  refine D._law_row.F.ok scLrow (fun vs H Q E h => ?_) (fun cdv A outer s H vs Q E hr h => ?_)
  · obtain ⟨a, rfl, _⟩ := h
    rfl
  · obtain ⟨a, rfl, b, k⟩ := h
    refine ⟨_, (pss_cons (ps_set (i := 1) scLrow.nd rfl (Or.inl rfl) (pe_lst (pa_cons (pe_tup (pa_cons pe_int (pa_cons pe_int pa_nil))) (pa_cons (pe_tup (pa_cons pe_int (pa_cons pe_int pa_nil))) (pa_cons (pe_tup (pa_cons pe_int (pa_cons pe_int pa_nil))) pa_nil)))))
        (pss_cons (ps_set (i := 2) scLrow.nd rfl (Or.inl rfl) (pcall D._law_take G_law_take hr (by decide) (by rfl) (pa_cons (pv 0) (pa_cons pe_int pa_nil))))
        (pss_cons (ps_if (pt_cmpR op_eq (pv 2) pe_int (nomark _)) (pss_one (ps_ret (pe_revL (pv 1)))) pss_nil)
        (pss_cons (ps_if (pt_cmpR op_eq (pv 2) pe_int (nomark _)) (pss_one (ps_ret (pe_lst (pa_cons (pe_tup (pa_cons pe_int (pa_cons pe_int pa_nil))) (pa_cons (pe_tup (pa_cons pe_int (pa_cons pe_int pa_nil))) pa_nil))))) pss_nil)
        (pss_cons (ps_if (pt_cmpR op_eq (pv 2) pe_int (nomark _)) (pss_one (ps_ret (pe_lst (pa_cons (pe_tup (pa_cons pe_int (pa_cons pe_int pa_nil))) (pa_cons (pe_tup (pa_cons pe_int (pa_cons pe_int pa_nil))) pa_nil))))) pss_nil)
        (pss_cons (ps_if (pt_cmpR op_eq (pv 2) pe_int (nomark _)) (pss_one (ps_ret (pe_callTy call_tuple_of (by rfl) T.b_tuple (by decide +kernel) (pa_cons (pv 1) pa_nil)))) pss_nil)
        (pss_cons (ps_if (pt_cmpR op_eq (pv 2) pe_int (nomark _)) (pss_one (ps_ret (pe_ix ix_list (pe_lst (pa_cons (pv 1) (pa_cons pe_non (pa_cons pe_str (pa_cons pe_dnewK (pa_cons pe_int (pa_cons (pe_lst (pa_cons (pe_lst (pa_cons pe_int (pa_cons pe_int pa_nil))) pa_nil)) pa_nil))))))) (pcall D._law_take G_law_take hr (by decide) (by rfl) (pa_cons (pv 0) (pa_cons pe_int pa_nil))) (fun _ _ => rfl)))) pss_nil)
        (pss_cons (ps_set (i := 3) scLrow.nd rfl (Or.inl rfl) (pcall D._law_take G_law_take hr (by decide) (by rfl) (pa_cons (pv 0) (pa_cons pe_int pa_nil))))
        (pss_one (ps_ret (pe_op op_cat (pe_op op_cat (pe_slice sl_list (pv 1) po_none (po_some (pv 3))) (pe_lst (pa_cons (pcall D._law_thing G_law_thing hr (by decide) (by rfl) (pa_cons (pv 0) pa_nil)) pa_nil))) (pe_slice sl_list (pv 1) (po_some (pv 3)) po_none)))))))))))), ?_⟩
    refine ⟨(by show 2 ≤ sizeLine; decide), fun q1 hq1 => ?_⟩
    generalize hG : upd _ _ _ = G1
    obtain ⟨x1, w1⟩ := obj_of hq1 hG
    clear hG
    refine ⟨(by show 2 ≤ sizeLine; decide), fun q2 hq2 => ?_⟩
    generalize hG : upd _ _ _ = G2
    obtain ⟨x2, w2⟩ := obj_of hq2 hG
    clear hG
    refine ⟨(by show 2 ≤ sizeLine; decide), fun q3 hq3 => ?_⟩
    generalize hG : upd _ _ _ = G3
    obtain ⟨x3, w3⟩ := obj_of hq3 hG
    clear hG
    refine ⟨(by show 3 ≤ sizeLine; decide), fun S hS => ?_⟩
    generalize hG : upd _ _ _ = G4
    obtain ⟨x4, w4⟩ := obj_of hS hG
    clear hG
    have ex : Exd H G4 := ((x1.trans x2).trans x3).trans x4
    have b4 := b.exd ex
    refine ⟨_, rfl, a, 8, rfl, b4, by decide, by decide, fun r H1 r0 r1 kp => ?_⟩
    have b1 : Bx H1 a := kp.bx
    have k1 : Kept a H H1 := (ex.kept b).trans kp
    have t1 : Dz H1 (.ref q1) (.tuple [.int 2, .int 4]) := .tup (kp.get b4 (((x2.trans x3).trans x4) _ _ w1) rfl) (.cons (.int _) (.cons (.int _) .nil))
    have t2 : Dz H1 (.ref q2) (.tuple [.int 6, .int 7]) := .tup (kp.get b4 ((x3.trans x4) _ _ w2) rfl) (.cons (.int _) (.cons (.int _) .nil))
    have t3 : Dz H1 (.ref q3) (.tuple [.int 9, .int 15]) := .tup (kp.get b4 (x4 _ _ w3) rfl) (.cons (.int _) (.cons (.int _) .nil))
    have wS := kp.get b4 w4 rfl
    have al : DzAll H1 [.ref q1, .ref q2, .ref q3] base3 := .cons t1 (.cons t2 (.cons t3 .nil))
    -- a new object that tells a row
    have out : ∀ {x : V} {d : PyData} {H' : Hp}, Exd H1 H' → Dz H' x d → RwD d → Q x H' := fun e dz rd => k _ _ _ (k1.trans (e.kept b1)) dz rd
    refine ⟨_, rfl, rfl, _, rfl, ?_⟩
    refine ite2 (fun _ => ?_) (fun _ => ?_)
    · refine ⟨_, rfl, S, _, rfl, SqL.of wS, fun p hp => ?_⟩
      generalize hG : upd _ _ _ = H2
      obtain ⟨y1, v1⟩ := obj_of hp hG
      clear hG
      exact out y1 (.lst v1 (.cons (y1.dz t3) (.cons (y1.dz t2) (.cons (y1.dz t1) .nil)))) (rw_lst (ds := [_, _, _]) (by simp only [List.forall_mem_cons]; exact ⟨(th_lit (by decide +kernel) (by decide +kernel) (by decide +kernel) (by decide +kernel) (by decide +kernel) (by decide +kernel) (by decide +kernel) (by decide +kernel)), (th_lit (by decide +kernel) (by decide +kernel) (by decide +kernel) (by decide +kernel) (by decide +kernel) (by decide +kernel) (by decide +kernel) (by decide +kernel)), (th_lit (by decide +kernel) (by decide +kernel) (by decide +kernel) (by decide +kernel) (by decide +kernel) (by decide +kernel) (by decide +kernel) (by decide +kernel)), fun d hd => nomatch hd⟩) (by decide) (fun _ _ _ z => by cases z))
    refine ⟨_, rfl, rfl, _, rfl, ?_⟩
    refine ite2 (fun _ => ?_) (fun _ => ?_)
    · refine ⟨(by show 2 ≤ sizeLine; decide), fun p1 hp1 => ?_⟩
      generalize hG : upd _ _ _ = H2
      obtain ⟨y1, v1⟩ := obj_of hp1 hG
      clear hG
      refine ⟨(by show 2 ≤ sizeLine; decide), fun p2 hp2 => ?_⟩
      generalize hG : upd _ _ _ = H3
      obtain ⟨y2, v2⟩ := obj_of hp2 hG
      clear hG
      refine ⟨(by show 2 ≤ sizeLine; decide), fun p hp => ?_⟩
      generalize hG : upd _ _ _ = H4
      obtain ⟨y3, v3⟩ := obj_of hp hG
      clear hG
      exact out ((y1.trans y2).trans y3) (.lst v3 (.cons (.tup ((y2.trans y3) _ _ v1) (.cons (.int _) (.cons (.int _) .nil))) (.cons (.tup (y3 _ _ v2) (.cons (.int _) (.cons (.int _) .nil))) .nil))) (rw_lst (ds := [.tuple [.int 2, .int 4], .tuple [.int 4, .int 7]]) (by simp only [List.forall_mem_cons]; exact ⟨(th_lit (by decide +kernel) (by decide +kernel) (by decide +kernel) (by decide +kernel) (by decide +kernel) (by decide +kernel) (by decide +kernel) (by decide +kernel)), (th_lit (by decide +kernel) (by decide +kernel) (by decide +kernel) (by decide +kernel) (by decide +kernel) (by decide +kernel) (by decide +kernel) (by decide +kernel)), fun d hd => nomatch hd⟩) (by decide) (fun _ _ _ z => by cases z))
    refine ⟨_, rfl, rfl, _, rfl, ?_⟩
    refine ite2 (fun _ => ?_) (fun _ => ?_)
    · refine ⟨(by show 2 ≤ sizeLine; decide), fun p1 hp1 => ?_⟩
      generalize hG : upd _ _ _ = H2
      obtain ⟨y1, v1⟩ := obj_of hp1 hG
      clear hG
      refine ⟨(by show 2 ≤ sizeLine; decide), fun p2 hp2 => ?_⟩
      generalize hG : upd _ _ _ = H3
      obtain ⟨y2, v2⟩ := obj_of hp2 hG
      clear hG
      refine ⟨(by show 2 ≤ sizeLine; decide), fun p hp => ?_⟩
      generalize hG : upd _ _ _ = H4
      obtain ⟨y3, v3⟩ := obj_of hp hG
      clear hG
      exact out ((y1.trans y2).trans y3) (.lst v3 (.cons (.tup ((y2.trans y3) _ _ v1) (.cons (.int _) (.cons (.int _) .nil))) (.cons (.tup (y3 _ _ v2) (.cons (.int _) (.cons (.int _) .nil))) .nil))) (rw_lst (ds := [.tuple [.int 2, .int 5], .tuple [.int 3, .int 4]]) (by simp only [List.forall_mem_cons]; exact ⟨(th_lit (by decide +kernel) (by decide +kernel) (by decide +kernel) (by decide +kernel) (by decide +kernel) (by decide +kernel) (by decide +kernel) (by decide +kernel)), (th_lit (by decide +kernel) (by decide +kernel) (by decide +kernel) (by decide +kernel) (by decide +kernel) (by decide +kernel) (by decide +kernel) (by decide +kernel)), fun d hd => nomatch hd⟩) (by decide) (fun _ _ _ z => by cases z))
    refine ⟨_, rfl, rfl, _, rfl, ?_⟩
    refine ite2 (fun _ => ?_) (fun _ => ?_)
    · refine ⟨_, rfl, S, _, rfl, .inl ⟨SqL.of wS, fun p hp => ?_⟩⟩
      generalize hG : upd _ _ _ = H2
      obtain ⟨y1, v1⟩ := obj_of hp hG
      clear hG
      exact out y1 (.tup v1 (y1.dzs al)) (rw_tup base3_ok (by decide))
    refine ⟨_, rfl, rfl, _, rfl, ?_⟩
    refine ite2 (fun _ => ?_) (fun _ => ?_)
    · refine ⟨_, rfl, fun pd hpd => ?_⟩
      generalize hG : upd _ _ _ = H2
      obtain ⟨y1, v1⟩ := obj_of hpd hG
      clear hG
      refine ⟨(by show 2 ≤ sizeLine; decide), fun p1 hp1 => ?_⟩
      generalize hG : upd _ _ _ = H3
      obtain ⟨y2, v2⟩ := obj_of hp1 hG
      clear hG
      refine ⟨(by show 1 ≤ sizeLine; decide), fun p2 hp2 => ?_⟩
      generalize hG : upd _ _ _ = H4
      obtain ⟨y3, v3⟩ := obj_of hp2 hG
      clear hG
      refine ⟨(by show 6 ≤ sizeLine; decide), fun p hp => ?_⟩
      generalize hG : upd _ _ _ = H5
      obtain ⟨y4, v4⟩ := obj_of hp hG
      clear hG
      have e5 : Exd H1 H5 := ((y1.trans y2).trans y3).trans y4
      have b5 := b1.exd e5
      have al5 : DzAll H5 _ [.list base3, .none, .str "rows", .dict [], .int 5, .list [.list [.int 2, .int 4]]] :=
        .cons (.lst (e5 _ _ wS) (e5.dzs al)) (.cons .non (.cons (.str _) (.cons (.dct (((y2.trans y3).trans y4) _ _ v1)) (.cons (.int _) (.cons (.lst (y4 _ _ v3) (.cons (.lst ((y3.trans y4) _ _ v2) (.cons (.int _) (.cons (.int _) .nil))) .nil)) .nil)))))
      refine ⟨_, rfl, a, 6, rfl, b5, by decide, by decide, fun r2 H6 s0 s1 kp2 => ?_⟩
      obtain ⟨m, rfl⟩ := int_of s0
      obtain ⟨v, d, hv, hd, dz⟩ := al5.pick (m := m) (by show m < 6; omega)
      have rd : RwD d := by
        have all : ∀ d ∈ [PyData.list base3, .none, .str "rows", .dict [], .int 5, .list [.list [.int 2, .int 4]]], RwD d := by
          simp only [List.forall_mem_cons]
          refine ⟨rw_lst base3_ok (by decide) (fun _ _ _ z => by cases z), ⟨⟨by decide +kernel, by decide +kernel, by decide +kernel, by decide +kernel⟩, rfl, .inr (.inl rfl)⟩, ⟨⟨by decide +kernel, by decide +kernel, by decide +kernel, by decide +kernel⟩, rfl, .inr (.inr (.inl rfl))⟩, ⟨⟨by decide +kernel, by decide +kernel, by decide +kernel, by decide +kernel⟩, rfl, .inr (.inr (.inr (.inl rfl)))⟩, ⟨⟨by decide +kernel, by decide +kernel, by decide +kernel, by decide +kernel⟩, rfl, .inr (.inr (.inr (.inr rfl)))⟩, rw_lst (ds := [.list [.int 2, .int 4]]) (by simp only [List.forall_mem_cons]; exact ⟨(th_lit (by decide +kernel) (by decide +kernel) (by decide +kernel) (by decide +kernel) (by decide +kernel) (by decide +kernel) (by decide +kernel) (by decide +kernel)), fun d hd => nomatch hd⟩) (by decide) (fun _ _ _ z => by cases z), fun d hd => nomatch hd⟩
        exact all d hd
      refine ⟨p, _, _, v, rfl, rfl, SqL.of (kp2.get b5 v4 rfl), hv, ?_⟩
      exact k _ _ _ ((k1.trans (e5.kept b1)).trans kp2) (Dz.kept kp2 b5 _ _ dz rd.nb) rd
    refine ⟨_, rfl, a, 4, rfl, b1, by decide, by decide, fun r2 H2 s0 s1 kp2 => ?_⟩
    obtain ⟨m, rfl⟩ := int_of s0
    have b2 : Bx H2 a := kp2.bx
    have wS2 := kp2.get b1 wS rfl
    refine ⟨_, rfl, _, rfl, _, rfl, S, _, rfl, SqL.of wS2, fun p1 hp1 => ?_⟩
    rw [cut_to]
    generalize hG : upd _ _ _ = H3
    obtain ⟨y1, v1⟩ := obj_of hp1 hG
    clear hG
    have b3 := b2.exd y1
    refine ⟨_, rfl, a, rfl, b3, fun x d H4 kp3 dz th => ?_⟩
    have b4' : Bx H4 a := kp3.bx
    have nbx : noBox (.lst (([.ref q1, .ref q2, .ref q3] : List V).take m)) = true := by
      match m with
      | 0 => rfl
      | 1 => rfl
      | 2 => rfl
      | _ + 3 => rfl
    have v1' := kp3.get b3 v1 nbx
    have al4 : DzAll H4 [.ref q1, .ref q2, .ref q3] base3 := DzAll.kept kp3 b3 _ _ (y1.dzs (DzAll.kept kp2 b1 _ _ al rfl)) rfl
    have wS4 := kp3.get b3 (y1 _ _ wS2) rfl
    refine ⟨(by show 1 ≤ sizeLine; decide), fun p2 hp2 => ?_⟩
    generalize hG : upd _ _ _ = H5
    obtain ⟨y2, v2⟩ := obj_of hp2 hG
    clear hG
    have t3l : (([.ref q1, .ref q2, .ref q3] : List V).take m).length ≤ 3 := by
      rw [List.length_take]
      exact Nat.min_le_right _ _
    have big := PySem.sizeLine_eq
    refine ⟨p1, p2, _, _, rfl, rfl, y2 _ _ v1', v2, by simp only [List.length_cons, List.length_nil]; omega, fun p3 hp3 => ?_⟩
    generalize hG : upd _ _ _ = H6
    obtain ⟨y3, v3⟩ := obj_of hp3 hG
    clear hG
    refine ⟨_, rfl, _, rfl, _, rfl, S, _, rfl, SqL.of ((y2.trans y3) _ _ wS4), fun p4 hp4 => ?_⟩
    rw [cut_from _ _ (by show m ≤ 3; omega)]
    generalize hG : upd _ _ _ = H7
    obtain ⟨y4, v4⟩ := obj_of hp4 hG
    clear hG
    have d3l : (([.ref q1, .ref q2, .ref q3] : List V).drop m).length ≤ 3 := by
      rw [List.length_drop]
      exact Nat.sub_le _ _
    refine ⟨p3, p4, _, _, rfl, rfl, y4 _ _ v3, v4, by simp only [List.length_append, List.length_cons, List.length_nil]; omega, fun p5 hp5 => ?_⟩
    generalize hG : upd _ _ _ = H8
    obtain ⟨y5, v5⟩ := obj_of hp5 hG
    clear hG
    have e8 : Exd H4 H8 := ((y2.trans y3).trans y4).trans y5
    have al8 := e8.dzs al4
    have tot : DzAll H8 _ (base3.take m ++ [d] ++ base3.drop m) := ((al8.take m).app (.cons (e8.dz dz) .nil)).app (al8.drop m)
    have len : (base3.take m ++ [d] ++ base3.drop m).length = 4 := by
      have : base3.length = 3 := rfl
      simp only [List.length_append, List.length_take, List.length_drop, List.length_cons, List.length_nil]
      omega
    refine k _ _ _ ((((k1.trans kp2).trans (y1.kept b2)).trans kp3).trans (e8.kept b4')) (.lst v5 tot) (rw_lst (fun e he => ?_) (by omega) (fun i j l z => ?_))
    · rcases List.mem_append.mp he with he | he
      · rcases List.mem_append.mp he with he | he
        · exact base3_ok e (List.mem_of_mem_take he)
        · rw [List.mem_singleton.mp he]
          exact th
      · exact base3_ok e (List.mem_of_mem_drop he)
    · rw [z] at len
      cases len
end
end LL
set_option maxHeartbeats 8000000
namespace LL
open PySem PySem.Spec PyProof.Rows L2
/-- how a refusal, or none, is told, as data -/
def outD : Option (Bool × PyData) → PyData
  | none => .tuple [.str "told"]
  | some (true, d) => .tuple [.str "stretch", d]
  | some (false, d) => .tuple [.str "number", d]
theorem szStr {z : Str} {k W : Nat} (h1 : (PyData.str z).showable = true) (h2 : (PyData.str z).leavesShort 60 = true) (h3 : (PyData.str z).weight ≤ W) : Sz (.str z) k W := ⟨h1, h2, by simp only [PyData.depth]; exact Nat.zero_le _, h3⟩
/-- the same thing, and the same data, in both -/
inductive SameO (H : Hp) : Option (Bool × V) → Option (Bool × PyData) → Prop
  | no : SameO H none none
  | yes {b : Bool} {v : V} {d : PyData} (h : Dz H v d) (s : Sz d 6 3000) : SameO H (some (b, v)) (some (b, d))
theorem SameO.keep {H H' : Hp} (k : Keep H H') {o : Option (Bool × V)} {e : Option (Bool × PyData)} (h : SameO H o e) : SameO H' o e := by
  cases h with
  | no => exact .no
  | yes h s => exact .yes (Dz.keep k _ _ h) s
theorem SameO.rep {H : Hp} {o : Option (Bool × V)} {e : Option (Bool × PyData)} (h : SameO H o e) {p : Addr} (hp : H p = some (.tup (outV o))) : Dz H (.ref p) (outD e) ∧ isDisplay (outD e) = true ∧ Sz (outD e) 60 200000 := by
  cases h with
  | no => exact ⟨.tup hp (.cons (.str _) .nil), rfl, (SzAll.tuple (SzAll.cons (k := 0) (W := 300) (szStr (by decide +kernel) (by decide +kernel) (by decide +kernel)) szAll_nil)).mono (by decide) (by decide)⟩
  | @yes b v d h s =>
    cases b with
    | true => exact ⟨.tup hp (.cons (.str _) (.cons h .nil)), rfl, (SzAll.tuple (SzAll.cons (k := 0) (W := 300) (szStr (by decide +kernel) (by decide +kernel) (by decide +kernel)) (SzAll.cons s szAll_nil))).mono (by decide) (by decide)⟩
    | false => exact ⟨.tup hp (.cons (.str _) (.cons h .nil)), rfl, (SzAll.tuple (SzAll.cons (k := 0) (W := 300) (szStr (by decide +kernel) (by decide +kernel) (by decide +kernel)) (SzAll.cons s szAll_nil))).mono (by decide) (by decide)⟩
section
variable {K : PySem.W.Frag} {S N tb : Addr} {H : Hp}
def oRow (way : Int) (x y : V) (d1 d2 : PyData) : Option (Bool × V) := if tidyD d1 = false then some (true, x) else if way < 5 ∧ tidyD d2 = false then some (true, y) else none
def eRow (way : Int) (d1 d2 : PyData) : Option (Bool × PyData) := if tidyD d1 = false then some (true, d1) else if way < 5 ∧ tidyD d2 = false then some (true, d2) else none
theorem same_row {way : Int} {x y : V} {d1 d2 : PyData} (h1 : Dz H x d1) (s1 : Sz d1 6 3000) (h2 : Dz H y d2) (s2 : Sz d2 6 3000) : SameO H (oRow way x y d1 d2) (eRow way d1 d2) := by
  unfold oRow eRow
  split
  · exact .yes h1 s1
  · split
    · exact .yes h2 s2
    · exact .no
theorem comes_row {way : Int} {x y : V} {d1 d2 : PyData} (w0 : 2 ≤ way) (w1 : way < 8) (h1 : Dz H x d1) (h2 : Dz H y d2) (tab : GxR.TabG H tb) : Comes K S N tb way x y H (oRow way x y d1 d2) := by
  intro Q E k ks kn
  have cases : way = 2 ∨ way = 3 ∨ way = 4 ∨ way = 5 ∨ way = 6 ∨ way = 7 := by omega
  refine ⟨way, x, y, rfl, ?_⟩
  have two : way < 5 → spTwo K S tb [x, y] H Q E := fun l => ⟨x, y, _, _, rfl, h1.runsB, h2.runsB, tab, fun a b => k (by simp [oRow, a, b]), fun a => ks x (by simp [oRow, a]), fun a b => ks y (by simp [oRow, a, b, l])⟩
  have one : ¬ way < 5 → spHow K S tb [x] H Q E := fun l => ⟨x, _, rfl, h1.runsB, tab, fun a => k (by simp [oRow, a, l]), fun a => ks x (by simp [oRow, a])⟩
  have num : ¬ way < 5 → spHasNum K S tb [x, y] H Q E := fun l => ⟨x, y, _, rfl, h1.runsB, h2.thing, tab, fun a => k (by simp [oRow, a, l]), fun a => ks x (by simp [oRow, a])⟩
  rcases cases with rfl | rfl | rfl | rfl | rfl | rfl
  · exact .inr (.inr (.inl ⟨rfl, two (by decide)⟩))
  · exact .inr (.inr (.inr (.inl ⟨rfl, two (by decide)⟩)))
  · exact .inr (.inr (.inr (.inr (.inl ⟨rfl, two (by decide)⟩))))
  · exact .inr (.inr (.inr (.inr (.inr (.inl ⟨rfl, one (by decide)⟩)))))
  · exact .inr (.inr (.inr (.inr (.inr (.inr (.inl ⟨rfl, one (by decide)⟩))))))
  · exact .inr (.inr (.inr (.inr (.inr (.inr (.inr ⟨rfl, num (by decide)⟩))))))
theorem RwD.few {d : PyData} (h : RwD d) : ∀ es, d = .list es → es.length ≤ 1000 := by
  rintro es rfl
  rcases h.kd with ⟨ds, e, _, l⟩ | e | e | e | e
  · rcases e with e | e
    · cases e
      omega
    · cases e
  all_goals cases e
end
section
variable {P : Program} {w : World} {K : PySem.W.Frag} {mg : Str → Option Value} {base : Heap} {c tb : Addr}
def spRowsRight (tb : Addr) : Sp := fun vs H Q _ => ∃ (x y : V) (d1 d2 : PyData), vs = [x, y] ∧ Dz H x d1 ∧ RwD d1 ∧ Dz H y d2 ∧ RwD d2 ∧ GxR.TabG H tb ∧ ∀ H', Nw tb H H' → Q (.bl true) H'
theorem ok__law_rows_right (D : Defs K mg) (T : Tx K mg) (hc : D.is_runs.fd.code = .ref c) (TB : GxR.TabB base mg c tb) : FnG P w K mg base 13 D._law_rows_right.f D._law_rows_right.fd ["_law_one", "_law_other"] (spRowsRight tb) := by
  have G_law_tidy := ok__law_tidy (P := P) (w := w) (base := base) D T (tb := tb)
  have G_law_told := ok__law_told (P := P) (w := w) (base := base) D T hc TB
  refine fnG_of D._law_rows_right.F scLrowsright (fun vs H Q E h => ?_) (fun cdv A outer s H vs Q E guard hr h => ?_)
  · obtain ⟨x, y, d1, d2, rfl, _⟩ := h
    rfl
  · obtain ⟨x, y, d1, d2, rfl, z1, r1, z2, r2, tab, k⟩ := h
    refine ⟨_, (pss_cons (ps_for PassesOwn.never rfl (pi_range2 rfl T.b_range (pa_cons pe_int (pa_cons pe_int pa_nil))) (pg_name (i := 2) scLrowsright.nd rfl (Or.inl rfl)) (pss_cons (ps_set (i := 3) scLrowsright.nd rfl (Or.inl rfl) (pe_tup (pa_cons pe_str pa_nil)))
        (pss_cons (ps_if (PW.pt (pw_and (pt_cmpR op_lt (pv 2) pe_int (nomark _)) (pw_and1 (pt_not (pt_val (pcall D._law_tidy G_law_tidy hr (by decide) (by rfl) (pa_cons (pv 1) pa_nil))))))) (pss_one (ps_set (i := 3) scLrowsright.nd rfl (Or.inl rfl) (pe_tup (pa_cons pe_str (pa_cons (pv 1) pa_nil))))) pss_nil)
        (pss_cons (ps_if (pt_not (pt_val (pcall D._law_tidy G_law_tidy hr (by decide) (by rfl) (pa_cons (pv 0) pa_nil)))) (pss_one (ps_set (i := 3) scLrowsright.nd rfl (Or.inl rfl) (pe_tup (pa_cons pe_str (pa_cons (pv 0) pa_nil))))) pss_nil)
        (pss_one (ps_if (pt_cmpR op_ne (pe_callB (call_reprZ guard hr) (by rfl) T.b_repr (by decide +kernel) (pa_cons (pcall D._law_told G_law_told hr (by decide) (by rfl) (pa_cons (pv 2) (pa_cons (pv 0) (pa_cons (pv 1) pa_nil)))) pa_nil)) (pe_callB (call_reprZ guard hr) (by rfl) T.b_repr (by decide +kernel) (pa_cons (pv 3) pa_nil)) (nomark _)) (pss_one (ps_ret pe_bl)) pss_nil))))))
        (pss_one (ps_ret pe_bl))), ?_⟩
    refine ⟨_, _, rfl, ⟨by decide, by decide, by decide, by decide⟩, for_range (lo := 2) (n := 6) (fun j σ H' => Nw tb H H' ∧ ∃ v1 v2, σ = [some x, some y, v1, v2]) ⟨Nw.refl tab, _, _, rfl⟩ ?_ ?_⟩
    · rintro j σ H1 hj ⟨n1, v1, v2, rfl⟩
      have w0 : (2 : Int) ≤ 2 + (j : Int) := by omega
      have w1 : (2 : Int) + (j : Int) < 8 := by omega
      generalize (2 : Int) + (j : Int) = way at w0 w1 ⊢
      refine ⟨(by show 1 ≤ sizeLine; decide), fun p0 hp0 => ?_⟩
      have n2 := n1.new hp0 (u := .tup [.str "told"])
      have e2 : (upd H1 p0 (.tup [.str "told"])) p0 = some (.tup (outV none)) := upd_same
      generalize upd H1 p0 (.tup [.str "told"]) = H2 at n2 e2 ⊢
      refine ⟨_, rfl, _, _, rfl, rfl, _, rfl, ?_⟩
      cases cw : decide (way < 5) with
      | false =>
        have cw' : ¬ way < 5 := of_decide_eq_false cw
        refine iteF (iteF ?_)
        refine ⟨_, rfl, x, d1, rfl, Dz.keep n2.keep _ _ z1, r1.few, n2.tab, fun H5 n5 => ⟨_, rfl, ?_⟩⟩
        have m5 := n2.trans n5
        cases t1 : tidyD d1 with
        | true =>
          refine iteF ?_
          refine ⟨_, rfl, _, rfl, _, rfl, way, x, y, _, rfl, m5.tab, comes_row w0 w1 (Dz.keep m5.keep _ _ z1) (Dz.keep m5.keep _ _ z2) m5.tab, fun q H9 n9 hq e9 => ?_⟩
          have so : SameO H9 (oRow way x y d1 d2) (eRow way d1 d2) := same_row (Dz.keep (m5.trans n9).keep _ _ z1) r1.sz (Dz.keep (m5.trans n9).keep _ _ z2) r2.sz
          obtain ⟨a1, a2, a3⟩ := so.rep e9
          have ed := n9.tup (n5.tup e2)
          have ow : oRow way x y d1 d2 = none := by simp [oRow, cw', t1]
          rw [← ow] at ed
          obtain ⟨c1, c2, c3⟩ := so.rep ed
          refine ⟨_, _, rfl, a1, a2, a3, _, rfl, _, _, rfl, c1, c2, c3, rfl, _, rfl, ?_⟩
          rw [decide_eq_true rfl]
          exact iteF ⟨m5.trans n9, _, _, rfl⟩
        | false =>
          refine iteT ⟨_, rfl, (by show 2 ≤ sizeLine; decide), fun p6 hp6 => ?_⟩
          have m6 := m5.new hp6 (u := .tup [.str "stretch", x])
          have e6 : (upd H5 p6 (.tup [.str "stretch", x])) p6 = some (.tup (outV (some (true, x)))) := upd_same
          generalize upd H5 p6 (.tup [.str "stretch", x]) = H6 at m6 e6 ⊢
          refine ⟨_, rfl, _, rfl, _, rfl, way, x, y, _, rfl, m6.tab, comes_row w0 w1 (Dz.keep m6.keep _ _ z1) (Dz.keep m6.keep _ _ z2) m6.tab, fun q H9 n9 hq e9 => ?_⟩
          have so : SameO H9 (oRow way x y d1 d2) (eRow way d1 d2) := same_row (Dz.keep (m6.trans n9).keep _ _ z1) r1.sz (Dz.keep (m6.trans n9).keep _ _ z2) r2.sz
          obtain ⟨a1, a2, a3⟩ := so.rep e9
          have ed := n9.tup e6
          have ow : oRow way x y d1 d2 = some (true, x) := by simp [oRow, t1]
          rw [← ow] at ed
          obtain ⟨c1, c2, c3⟩ := so.rep ed
          refine ⟨_, _, rfl, a1, a2, a3, _, rfl, _, _, rfl, c1, c2, c3, rfl, _, rfl, ?_⟩
          rw [decide_eq_true rfl]
          exact iteF ⟨m6.trans n9, _, _, rfl⟩
      | true =>
        have cw' : way < 5 := of_decide_eq_true cw
        refine iteT ⟨_, rfl, y, d2, rfl, Dz.keep n2.keep _ _ z2, r2.few, n2.tab, fun H3 n3 => ⟨_, rfl, ?_⟩⟩
        have m3 := n2.trans n3
        cases t2 : tidyD d2 with
        | true =>
          refine iteF ?_
          refine ⟨_, rfl, x, d1, rfl, Dz.keep m3.keep _ _ z1, r1.few, m3.tab, fun H5 n5 => ⟨_, rfl, ?_⟩⟩
          have m5 := m3.trans n5
          cases t1 : tidyD d1 with
          | true =>
            refine iteF ?_
            refine ⟨_, rfl, _, rfl, _, rfl, way, x, y, _, rfl, m5.tab, comes_row w0 w1 (Dz.keep m5.keep _ _ z1) (Dz.keep m5.keep _ _ z2) m5.tab, fun q H9 n9 hq e9 => ?_⟩
            have so : SameO H9 (oRow way x y d1 d2) (eRow way d1 d2) := same_row (Dz.keep (m5.trans n9).keep _ _ z1) r1.sz (Dz.keep (m5.trans n9).keep _ _ z2) r2.sz
            obtain ⟨a1, a2, a3⟩ := so.rep e9
            have ed := n9.tup (n5.tup (n3.tup e2))
            have ow : oRow way x y d1 d2 = none := by simp [oRow, cw', t2, t1]
            rw [← ow] at ed
            obtain ⟨c1, c2, c3⟩ := so.rep ed
            refine ⟨_, _, rfl, a1, a2, a3, _, rfl, _, _, rfl, c1, c2, c3, rfl, _, rfl, ?_⟩
            rw [decide_eq_true rfl]
            exact iteF ⟨m5.trans n9, _, _, rfl⟩
          | false =>
            refine iteT ⟨_, rfl, (by show 2 ≤ sizeLine; decide), fun p6 hp6 => ?_⟩
            have m6 := m5.new hp6 (u := .tup [.str "stretch", x])
            have e6 : (upd H5 p6 (.tup [.str "stretch", x])) p6 = some (.tup (outV (some (true, x)))) := upd_same
            generalize upd H5 p6 (.tup [.str "stretch", x]) = H6 at m6 e6 ⊢
            refine ⟨_, rfl, _, rfl, _, rfl, way, x, y, _, rfl, m6.tab, comes_row w0 w1 (Dz.keep m6.keep _ _ z1) (Dz.keep m6.keep _ _ z2) m6.tab, fun q H9 n9 hq e9 => ?_⟩
            have so : SameO H9 (oRow way x y d1 d2) (eRow way d1 d2) := same_row (Dz.keep (m6.trans n9).keep _ _ z1) r1.sz (Dz.keep (m6.trans n9).keep _ _ z2) r2.sz
            obtain ⟨a1, a2, a3⟩ := so.rep e9
            have ed := n9.tup e6
            have ow : oRow way x y d1 d2 = some (true, x) := by simp [oRow, t1]
            rw [← ow] at ed
            obtain ⟨c1, c2, c3⟩ := so.rep ed
            refine ⟨_, _, rfl, a1, a2, a3, _, rfl, _, _, rfl, c1, c2, c3, rfl, _, rfl, ?_⟩
            rw [decide_eq_true rfl]
            exact iteF ⟨m6.trans n9, _, _, rfl⟩
        | false =>
          refine iteT ⟨_, rfl, (by show 2 ≤ sizeLine; decide), fun p4 hp4 => ?_⟩
          have m4 := m3.new hp4 (u := .tup [.str "stretch", y])
          have e4 : (upd H3 p4 (.tup [.str "stretch", y])) p4 = some (.tup (outV (some (true, y)))) := upd_same
          generalize upd H3 p4 (.tup [.str "stretch", y]) = H4 at m4 e4 ⊢
          refine ⟨_, rfl, x, d1, rfl, Dz.keep m4.keep _ _ z1, r1.few, m4.tab, fun H5 n5 => ⟨_, rfl, ?_⟩⟩
          have m5 := m4.trans n5
          cases t1 : tidyD d1 with
          | true =>
            refine iteF ?_
            refine ⟨_, rfl, _, rfl, _, rfl, way, x, y, _, rfl, m5.tab, comes_row w0 w1 (Dz.keep m5.keep _ _ z1) (Dz.keep m5.keep _ _ z2) m5.tab, fun q H9 n9 hq e9 => ?_⟩
            have so : SameO H9 (oRow way x y d1 d2) (eRow way d1 d2) := same_row (Dz.keep (m5.trans n9).keep _ _ z1) r1.sz (Dz.keep (m5.trans n9).keep _ _ z2) r2.sz
            obtain ⟨a1, a2, a3⟩ := so.rep e9
            have ed := n9.tup (n5.tup e4)
            have ow : oRow way x y d1 d2 = some (true, y) := by simp [oRow, cw', t2, t1]
            rw [← ow] at ed
            obtain ⟨c1, c2, c3⟩ := so.rep ed
            refine ⟨_, _, rfl, a1, a2, a3, _, rfl, _, _, rfl, c1, c2, c3, rfl, _, rfl, ?_⟩
            rw [decide_eq_true rfl]
            exact iteF ⟨m5.trans n9, _, _, rfl⟩
          | false =>
            refine iteT ⟨_, rfl, (by show 2 ≤ sizeLine; decide), fun p6 hp6 => ?_⟩
            have m6 := m5.new hp6 (u := .tup [.str "stretch", x])
            have e6 : (upd H5 p6 (.tup [.str "stretch", x])) p6 = some (.tup (outV (some (true, x)))) := upd_same
            generalize upd H5 p6 (.tup [.str "stretch", x]) = H6 at m6 e6 ⊢
            refine ⟨_, rfl, _, rfl, _, rfl, way, x, y, _, rfl, m6.tab, comes_row w0 w1 (Dz.keep m6.keep _ _ z1) (Dz.keep m6.keep _ _ z2) m6.tab, fun q H9 n9 hq e9 => ?_⟩
            have so : SameO H9 (oRow way x y d1 d2) (eRow way d1 d2) := same_row (Dz.keep (m6.trans n9).keep _ _ z1) r1.sz (Dz.keep (m6.trans n9).keep _ _ z2) r2.sz
            obtain ⟨a1, a2, a3⟩ := so.rep e9
            have ed := n9.tup e6
            have ow : oRow way x y d1 d2 = some (true, x) := by simp [oRow, t1]
            rw [← ow] at ed
            obtain ⟨c1, c2, c3⟩ := so.rep ed
            refine ⟨_, _, rfl, a1, a2, a3, _, rfl, _, _, rfl, c1, c2, c3, rfl, _, rfl, ?_⟩
            rw [decide_eq_true rfl]
            exact iteF ⟨m6.trans n9, _, _, rfl⟩
    · rintro σ H1 ⟨n1, v1, v2, rfl⟩
      exact k _ n1
end
end LL
set_option maxHeartbeats 8000000
namespace LL
open PySem PySem.Spec PyProof.Rows L2
section
variable {K : PySem.W.Frag} {S N tb : Addr} {H : Hp}
theorem ThD.sz6 {d : PyData} (h : ThD d) : Sz d 6 3000 := h.sz.mono (by decide) (by decide)
theorem FirstBad.uniq {xs : List V} {bs : List Bool} {v u : V} (h : FirstBad xs bs v) (g : FirstBad xs bs u) : v = u := by
  obtain ⟨i, h1, h2, h3⟩ := h
  obtain ⟨j, g1, g2, g3⟩ := g
  rcases Nat.lt_trichotomy i j with l | rfl | l
  · rw [g3 i l] at h2
    cases h2
  · rw [h1] at g1
    exact Option.some.inj g1
  · rw [h3 j l] at g2
    cases g2
theorem keep_sq {H H' : Hp} {a : Addr} {xs : List V} (k : Keep H H') (h : H a = some (.lst xs) ∨ H a = some (.tup xs)) : H' a = some (.lst xs) ∨ H' a = some (.tup xs) := by
  rcases h with h | h
  · exact .inl (k _ _ (fun q z => by cases z) h)
  · exact .inr (k _ _ (fun q z => by cases z) h)
/-- what is told of a row, for every later heap -/
theorem case_row {x : V} {d : PyData} (h : Dz H x d) (r : RwD d) : ∃ (y : V) (w : Bool) (o : Option (Bool × V)) (e : Option (Bool × PyData)), (w = true → o = none) ∧ (w = false → o = some (true, y)) ∧
    ∀ H', Keep H H' → FB H' false x y ∧ EqS K H' noneIs y w ∧ SameO H' o e ∧ ∀ tb, GxR.TabG H' tb → Comes K S N tb 0 x (.int 0) H' o := by
  have other : (∀ K, ∀ H', Keep H H' → IsSeq K H' x false) → notW d → ∃ (y : V) (w : Bool) (o : Option (Bool × V)) (e : Option (Bool × PyData)), (w = true → o = none) ∧ (w = false → o = some (true, y)) ∧
      ∀ H', Keep H H' → FB H' false x y ∧ EqS K H' noneIs y w ∧ SameO H' o e ∧ ∀ tb, GxR.TabG H' tb → Comes K S N tb 0 x (.int 0) H' o := fun no nw => by
    refine ⟨x, false, some (true, x), some (true, d), (fun z => by cases z), fun _ => rfl, fun H' kp => ⟨.other fun K => no K H' kp, (Dz.keep kp _ _ h).eqS nw, .yes (Dz.keep kp _ _ h) r.sz, fun tb tab => ?_⟩⟩
    intro Q E k ks kn
    exact ⟨0, x, .int 0, rfl, .inl ⟨rfl, x, rfl, tab, .inl ⟨no K H' kp, ks x rfl⟩⟩⟩
  have seq : ∀ (a : Addr) (xs : List V) (ds : List PyData), x = .ref a → (H a = some (.lst xs) ∨ H a = some (.tup xs)) → DzAll H xs ds → (∀ e ∈ ds, ThD e) → ∃ (y : V) (w : Bool) (o : Option (Bool × V)) (e : Option (Bool × PyData)), (w = true → o = none) ∧ (w = false → o = some (true, y)) ∧
      ∀ H', Keep H H' → FB H' false x y ∧ EqS K H' noneIs y w ∧ SameO H' o e ∧ ∀ tb, GxR.TabG H' tb → Comes K S N tb 0 x (.int 0) H' o := fun a xs ds ex hs al th => by
    subst ex
    cases q : bad1 (okD false) xs ds with
    | none =>
      have all : (ds.map goodD).all id = true := bad1_all (okD false) xs ds al.len q
      refine ⟨.str noneIs, true, none, none, fun _ => rfl, (fun z => by cases z), fun H' kp => ⟨?_, ?_, .no, fun tb tab => ?_⟩⟩
      · have := FB.seq (b := false) (keep_sq kp hs) (DzAll.keep kp _ _ al)
        rw [q] at this
        exact this
      · have := EqS.dat (K := K) (H := H') (k := noneIs) (.str noneIs) (strShaped (by decide +kernel))
        have e : PyData.eqv (.str noneIs) (.str noneIs) = true := by decide +kernel
        rw [e] at this
        exact this
      · intro Q E k ks kn
        refine ⟨0, .ref a, .int 0, rfl, .inl ⟨rfl, .ref a, rfl, tab, .inr ⟨a, xs, _, rfl, keep_sq kp hs, (DzAll.keep kp _ _ al).stBs, fun _ => k rfl, fun v fb => ?_⟩⟩⟩
        obtain ⟨i, _, h2, _⟩ := fb
        have := List.all_eq_true.mp all _ (List.mem_of_getElem? h2)
        cases this
    | some p =>
      obtain ⟨v, dv⟩ := p
      obtain ⟨i, h1, h2, h3, h4⟩ := bad1_get _ _ _ _ _ q
      have thv := th dv (List.mem_of_getElem? h2)
      have dzv : Dz H v dv := by
        obtain ⟨d', hd, dz⟩ := al.get h1
        rw [h2] at hd
        cases hd
        exact dz
      refine ⟨v, false, some (true, v), some (true, dv), (fun z => by cases z), fun _ => rfl, fun H' kp => ⟨?_, (Dz.keep kp _ _ dzv).eqS thv.nw, .yes (Dz.keep kp _ _ dzv) thv.sz6, fun tb tab => ?_⟩⟩
      · have := FB.seq (b := false) (keep_sq kp hs) (DzAll.keep kp _ _ al)
        rw [q] at this
        exact this
      · intro Q E k ks kn
        have fb0 : FirstBad xs (ds.map goodD) v := ⟨i, h1, by rw [List.getElem?_map, h2]; exact congrArg some h3, fun j hj => by
          obtain ⟨d', hd, e⟩ := h4 j hj
          rw [List.getElem?_map, hd]
          exact congrArg some e⟩
        refine ⟨0, .ref a, .int 0, rfl, .inl ⟨rfl, .ref a, rfl, tab, .inr ⟨a, xs, _, rfl, keep_sq kp hs, (DzAll.keep kp _ _ al).stBs, fun al2 => ?_, fun u fb => ?_⟩⟩⟩
        · obtain ⟨i, _, h2, _⟩ := fb0
          have := List.all_eq_true.mp al2 _ (List.mem_of_getElem? h2)
          cases this
        · rw [fb.uniq fb0]
          exact ks v rfl
  rcases r.kd with ⟨ds, e, th, _⟩ | e | e | e | e
  · rcases e with e | e
    · subst e
      cases h with
      | lst h al => exact seq _ _ _ rfl (.inl h) al th
    · subst e
      cases h with
      | tup h al => exact seq _ _ _ rfl (.inr h) al th
  · subst e
    cases h
    exact other (fun K H' _ => .non) (.inr ⟨by decide +kernel, by decide +kernel, by decide +kernel⟩)
  · subst e
    cases h
    exact other (fun K H' _ => .str _) (.inr ⟨by decide +kernel, by decide +kernel, by decide +kernel⟩)
  · subst e
    cases h with
    | dct h => exact other (fun K H' kp => .dct (tyX_d (kp _ _ (fun q z => by cases z) h))) (.inl rfl)
  · subst e
    cases h
    exact other (fun K H' _ => .int _) (.inr ⟨by decide +kernel, by decide +kernel, by decide +kernel⟩)
theorem num_within {x : V} {d : PyData} (h : Dz H x d) : within x 0 399 = numD d := by
  cases h with
  | int n =>
    show (decide (0 ≤ n) && decide (n ≤ 399)) = (decide (0 ≤ n) && decide (n < 400))
    congr 1
    rw [decide_eq_decide]
    omega
  | _ => rfl
/-- what is told of numbers, one of which is none -/
theorem case_num {x : V} {d : PyData} (h : Dz H x d) (r : (∃ ds, (d = .list ds ∨ d = .tuple ds) ∧ (∀ e ∈ ds, ThD e) ∧ ∃ e ∈ ds, numD e = false) ∨ (d = .none ∨ d = .str "5" ∨ d = .dict [] ∨ d = .int 5)) : ∃ (y : V) (e : PyData),
    ∀ H', Keep H H' → FB H' true x y ∧ SameO H' (some (false, y)) (some (false, e)) ∧ ∀ tb, GxR.TabG H' tb → Comes K S N tb 1 x (.int 0) H' (some (false, y)) := by
  have other : (∀ K, ∀ H', Keep H H' → IsSeq K H' x false) → Sz d 6 3000 → ∃ (y : V) (e : PyData),
      ∀ H', Keep H H' → FB H' true x y ∧ SameO H' (some (false, y)) (some (false, e)) ∧ ∀ tb, GxR.TabG H' tb → Comes K S N tb 1 x (.int 0) H' (some (false, y)) := fun no sz => by
    refine ⟨x, d, fun H' kp => ⟨.other fun K => no K H' kp, .yes (Dz.keep kp _ _ h) sz, fun tb tab => ?_⟩⟩
    intro Q E k ks kn
    exact ⟨1, x, .int 0, rfl, .inr (.inl ⟨rfl, x, rfl, tab, .inl ⟨no K H' kp, kn x rfl⟩⟩)⟩
  have seq : ∀ (a : Addr) (xs : List V) (ds : List PyData), x = .ref a → (H a = some (.lst xs) ∨ H a = some (.tup xs)) → DzAll H xs ds → (∀ e ∈ ds, ThD e) → (∃ e ∈ ds, numD e = false) → ∃ (y : V) (e : PyData),
      ∀ H', Keep H H' → FB H' true x y ∧ SameO H' (some (false, y)) (some (false, e)) ∧ ∀ tb, GxR.TabG H' tb → Comes K S N tb 1 x (.int 0) H' (some (false, y)) := fun a xs ds ex hs al th bad => by
    subst ex
    cases q : bad1 (okD true) xs ds with
    | none =>
      have all : (ds.map numD).all id = true := bad1_all (okD true) xs ds al.len q
      obtain ⟨e, he, ne⟩ := bad
      have := List.all_eq_true.mp all _ (List.mem_map_of_mem he)
      rw [ne] at this
      cases this
    | some p =>
      obtain ⟨v, dv⟩ := p
      obtain ⟨i, h1, h2, h3, h4⟩ := bad1_get _ _ _ _ _ q
      have thv := th dv (List.mem_of_getElem? h2)
      have dzv : Dz H v dv := by
        obtain ⟨d', hd, dz⟩ := al.get h1
        rw [h2] at hd
        cases hd
        exact dz
      refine ⟨v, dv, fun H' kp => ⟨?_, .yes (Dz.keep kp _ _ dzv) thv.sz6, fun tb tab => ?_⟩⟩
      · have := FB.seq (b := true) (keep_sq kp hs) (DzAll.keep kp _ _ al)
        rw [q] at this
        exact this
      · intro Q E k ks kn
        refine ⟨1, .ref a, .int 0, rfl, .inr (.inl ⟨rfl, .ref a, rfl, tab, .inr ⟨a, xs, v, rfl, keep_sq kp hs, (DzAll.keep kp _ _ al).thing, ⟨i, h1, ?_, fun j u hj hu => ?_⟩, kn v rfl⟩⟩)⟩
        · rw [num_within dzv]
          exact h3
        · obtain ⟨d', hd, e⟩ := h4 j hj
          obtain ⟨d'', hd', dz⟩ := al.get hu
          rw [hd] at hd'
          cases hd'
          rw [num_within dz]
          exact e
  rcases r with ⟨ds, e, th, bad⟩ | e | e | e | e
  · rcases e with e | e
    · subst e
      cases h with
      | lst h al => exact seq _ _ _ rfl (.inl h) al th bad
    · subst e
      cases h with
      | tup h al => exact seq _ _ _ rfl (.inr h) al th bad
  · subst e
    cases h
    exact other (fun K H' _ => .non) ⟨by decide +kernel, by decide +kernel, by decide +kernel, by decide +kernel⟩
  · subst e
    cases h
    exact other (fun K H' _ => .str _) ⟨by decide +kernel, by decide +kernel, by decide +kernel, by decide +kernel⟩
  · subst e
    cases h with
    | dct h => exact other (fun K H' kp => .dct (tyX_d (kp _ _ (fun q z => by cases z) h))) ⟨by decide +kernel, by decide +kernel, by decide +kernel, by decide +kernel⟩
  · subst e
    cases h
    exact other (fun K H' _ => .int _) ⟨by decide +kernel, by decide +kernel, by decide +kernel, by decide +kernel⟩
end
end LL
set_option maxHeartbeats 8000000
namespace LL
open PySem PySem.Spec PyProof.Rows L2
theorem Nw.bx {P a : Addr} {H H' : Hp} (n : Nw P H H') (b : Bx H a) : Bx H' a := by
  obtain ⟨o, e, x, y, z, rfl, r⟩ := b
  exact ⟨_, n.lst e, x, y, z, rfl, r⟩
theorem rw_pair {H : Hp} {l : Addr} {x y : V} {d1 d2 : PyData} (e : H l = some (.lst [x, y])) (z1 : Dz H x d1) (z2 : Dz H y d2) (r1 : RwD d1) (r2 : RwD d2) : Dz H (.ref l) (.list [d1, d2]) ∧ isDisplay (.list [d1, d2]) = true ∧ Sz (.list [d1, d2]) 60 200000 :=
  ⟨.lst e (.cons z1 (.cons z2 .nil)), rfl, (SzAll.list (SzAll.cons r1.sz (SzAll.cons r2.sz szAll_nil))).mono (by decide) (by decide)⟩
theorem rw_empty : RwD (.list []) := rw_lst (fun e he => nomatch he) (by decide) (fun _ _ _ z => by cases z)
theorem rw_one {i j : Int} (h : ThD (.tuple [.int i, .int j])) : RwD (.list [.tuple [.int i, .int j]]) := rw_lst (ds := [_]) (by simp only [List.forall_mem_cons]; exact ⟨h, fun d hd => nomatch hd⟩) (by show 1 ≤ 9; decide) (fun _ _ _ z => by cases z)
section
variable {P : Program} {w : World} {K : PySem.W.Frag} {mg : Str → Option Value} {base : Heap} {c tb : Addr}
def spLaw (K : PySem.W.Frag) (tb : Addr) : Sp := fun vs H Q _ => ∃ (a : Addr) (ns : List Int), vs = [.ref a] ∧ SqL K H a (ns.map V.int) ∧ ns.length ≤ 63 ∧ GxR.TabG H tb ∧ ∀ H', Q (.bl true) H'
theorem ok_law (D : Defs K mg) (T : Tx K mg) (hc : D.is_runs.fd.code = .ref c) (TB : GxR.TabB base mg c tb) : FnG P w K mg base 14 D.law.f D.law.fd ["_law_script"] (spLaw K tb) := by
  have G_law_box := ok__law_box (P := P) (w := w) (base := base) D T
  have G_law_row := ok__law_row (P := P) (w := w) (base := base) D T
  have G_law_thing := ok__law_thing (P := P) (w := w) (base := base) D T
  have G_law_cell_at := ok__law_cell_at (P := P) (w := w) (base := base) D T
  have Gis_runs := ok_is_runs (P := P) (w := w) (base := base) D T hc TB
  have G_law_first_bad := ok__law_first_bad (P := P) (w := w) (base := base) D T (tb := tb)
  have Gis_stretch := ok_is_stretch (P := P) (w := w) (base := base) D T
  have G_law_good := ok__law_good (P := P) (w := w) (base := base) D T
  have G_law_rows_right := ok__law_rows_right (P := P) (w := w) (base := base) D T hc TB
  have G_law_take := ok__law_take (P := P) (w := w) (base := base) D T
  have G_law_tidy := ok__law_tidy (P := P) (w := w) (base := base) D T (tb := tb)
  have G_law_told := ok__law_told (P := P) (w := w) (base := base) D T hc TB
  refine fnG_of D.law.F sclaw (fun vs H Q E h => ?_) (fun cdv A outer s H vs Q E guard hr h => ?_)
  · obtain ⟨a, ns, rfl, _⟩ := h
    rfl
  · obtain ⟨a, ns, rfl, hS, len, tab, k⟩ := h
    refine ⟨_, (pss_cons (ps_for PassesOwn.never rfl (pi_range1 rfl T.b_range (pa_cons (pe_callB (call_max2 rfl) (by rfl) T.b_max (by decide +kernel) (pa_cons pe_int (pa_cons (pe_callB (call_min2 rfl) (by rfl) T.b_min (by decide +kernel) (pa_cons (pe_callB call_len_seq (by rfl) T.b_len (by decide +kernel) (pa_cons (pv 0) pa_nil)) (pa_cons pe_int pa_nil))) pa_nil))) pa_nil)) (pg_name (i := 1) sclaw.nd rfl (Or.inl rfl)) (pss_cons (ps_set (i := 2) sclaw.nd rfl (Or.inl rfl) (pcall D._law_box G_law_box hr (by decide) (by rfl) (pa_cons (pcall D._law_cell_at G_law_cell_at hr (by decide) (by rfl) (pa_cons (pv 0) (pa_cons (pv 1) pa_nil))) pa_nil)))
        (pss_cons (ps_set (i := 3) sclaw.nd rfl (Or.inl rfl) (pcall D._law_row G_law_row hr (by decide) (by rfl) (pa_cons (pv 2) pa_nil)))
        (pss_cons (ps_set (i := 4) sclaw.nd rfl (Or.inl rfl) (pcall D._law_row G_law_row hr (by decide) (by rfl) (pa_cons (pv 2) pa_nil)))
        (pss_cons (ps_set (i := 5) sclaw.nd rfl (Or.inl rfl) (pe_callB (call_reprZ guard hr) (by rfl) T.b_repr (by decide +kernel) (pa_cons (pe_lst (pa_cons (pv 3) (pa_cons (pv 4) pa_nil))) pa_nil)))
        (pss_cons (ps_for PassesOwn.never rfl (pi_list (pe_lst (pa_cons (pv 3) (pa_cons (pv 4) (pa_cons (pe_lst pa_nil) (pa_cons (pe_lst (pa_cons (pe_tup (pa_cons pe_int (pa_cons pe_int pa_nil))) pa_nil)) pa_nil)))))) (pg_name (i := 6) sclaw.nd rfl (Or.inl rfl)) (pss_cons (ps_set (i := 7) sclaw.nd rfl (Or.inl rfl) (pcall D.is_runs Gis_runs hr (by decide) (by rfl) (pa_cons (pv 6) pa_nil)))
        (pss_cons (ps_if (PW.pt (pw_or (pt_not (pt_val (pe_callB call_is_bool (by rfl) T.b_isinstance (by decide +kernel) (pa_cons (pv 7) (pa_cons (pe_bltn (v := .ty "bool") (u := .type "bool") (by rfl) T.b_bool (by decide +kernel) rfl) pa_nil))))) (pw_or1 (pt_cmpR op_ne (pv 7) (pcall D._law_tidy G_law_tidy hr (by decide) (by rfl) (pa_cons (pv 6) pa_nil)) (nomark _))))) (pss_one (ps_ret pe_bl)) pss_nil)
        (pss_cons (ps_set (i := 8) sclaw.nd rfl (Or.inl rfl) (pcall D._law_first_bad G_law_first_bad hr (by decide) (by rfl) (pa_cons (pv 6) (pa_cons pe_bl pa_nil))))
        (pss_cons (ps_set (i := 9) sclaw.nd rfl (Or.inl rfl) (pe_tup (pa_cons pe_str (pa_cons (pv 8) pa_nil))))
        (pss_cons (ps_if (pt_cmpR (op_eqS hr.units) (pv 8) pe_str (nomark _)) (pss_one (ps_set (i := 9) sclaw.nd rfl (Or.inl rfl) (pe_tup (pa_cons pe_str pa_nil)))) pss_nil)
        (pss_one (ps_if (pt_cmpR op_ne (pe_callB (call_reprZ guard hr) (by rfl) T.b_repr (by decide +kernel) (pa_cons (pcall D._law_told G_law_told hr (by decide) (by rfl) (pa_cons pe_int (pa_cons (pv 6) (pa_cons pe_int pa_nil)))) pa_nil)) (pe_callB (call_reprZ guard hr) (by rfl) T.b_repr (by decide +kernel) (pa_cons (pv 9) pa_nil)) (nomark _)) (pss_one (ps_ret pe_bl)) pss_nil))))))))
        (pss_cons (ps_set (i := 6) sclaw.nd rfl (Or.inl rfl) (pcall D._law_thing G_law_thing hr (by decide) (by rfl) (pa_cons (pv 2) pa_nil)))
        (pss_cons (ps_if (PW.pt (pw_or (pt_not (pt_val (pe_callB call_is_bool (by rfl) T.b_isinstance (by decide +kernel) (pa_cons (pcall D.is_stretch Gis_stretch hr (by decide) (by rfl) (pa_cons (pv 6) pa_nil)) (pa_cons (pe_bltn (v := .ty "bool") (u := .type "bool") (by rfl) T.b_bool (by decide +kernel) rfl) pa_nil))))) (pw_or1 (pt_cmpR op_ne (pcall D.is_stretch Gis_stretch hr (by decide) (by rfl) (pa_cons (pv 6) pa_nil)) (pcall D._law_good G_law_good hr (by decide) (by rfl) (pa_cons (pv 6) pa_nil)) (nomark _))))) (pss_one (ps_ret pe_bl)) pss_nil)
        (pss_cons (ps_if (PW.pt (pw_or (pt_not (pt_val (pcallG D._law_rows_right G_law_rows_right guard hr (by decide) (by rfl) (pa_cons (pv 3) (pa_cons (pv 4) pa_nil))))) (pw_or (pt_not (pt_val (pcallG D._law_rows_right G_law_rows_right guard hr (by decide) (by rfl) (pa_cons (pe_lst (pa_cons (pe_tup (pa_cons pe_int (pa_cons pe_int pa_nil))) pa_nil)) (pa_cons (pv 4) pa_nil))))) (pw_or1 (pt_not (pt_val (pcallG D._law_rows_right G_law_rows_right guard hr (by decide) (by rfl) (pa_cons (pv 3) (pa_cons (pe_lst pa_nil) pa_nil))))))))) (pss_one (ps_ret pe_bl)) pss_nil)
        (pss_cons (ps_set (i := 10) sclaw.nd rfl (Or.inl rfl) (pe_lst (pa_cons pe_int (pa_cons pe_int (pa_cons (pe_ix ix_list (pe_lst (pa_cons pe_int (pa_cons (pe_un un_neg pe_int) (pa_cons pe_non (pa_cons pe_bl (pa_cons pe_str (pa_cons (pe_lst (pa_cons pe_int pa_nil)) (pa_cons pe_bl (pa_cons (pe_op op_pow pe_int pe_int) pa_nil))))))))) (pcall D._law_take G_law_take hr (by decide) (by rfl) (pa_cons (pv 2) (pa_cons pe_int pa_nil))) (fun _ _ => rfl)) (pa_cons pe_non pa_nil))))))
        (pss_cons (ps_for PassesOwn.never rfl (pi_list (pe_lst (pa_cons (pv 10) (pa_cons (pe_callTy call_tuple_of (by rfl) T.b_tuple (by decide +kernel) (pa_cons (pv 10) pa_nil)) (pa_cons pe_non (pa_cons pe_str (pa_cons pe_dnewK (pa_cons pe_int pa_nil)))))))) (pg_name (i := 11) sclaw.nd rfl (Or.inl rfl)) (pss_one (ps_if (pt_cmpR op_ne (pe_callB (call_reprZ guard hr) (by rfl) T.b_repr (by decide +kernel) (pa_cons (pcall D._law_told G_law_told hr (by decide) (by rfl) (pa_cons pe_int (pa_cons (pv 11) (pa_cons pe_int pa_nil)))) pa_nil)) (pe_callB (call_reprZ guard hr) (by rfl) T.b_repr (by decide +kernel) (pa_cons (pe_tup (pa_cons pe_str (pa_cons (pcall D._law_first_bad G_law_first_bad hr (by decide) (by rfl) (pa_cons (pv 11) (pa_cons pe_bl pa_nil))) pa_nil))) pa_nil)) (nomark _)) (pss_one (ps_ret pe_bl)) pss_nil)))
        (pss_one (ps_if (pt_cmpR op_ne (pe_callB (call_reprZ guard hr) (by rfl) T.b_repr (by decide +kernel) (pa_cons (pe_lst (pa_cons (pv 3) (pa_cons (pv 4) pa_nil))) pa_nil)) (pv 5) (nomark _)) (pss_one (ps_ret pe_bl)) pss_nil)))))))))))))
        (pss_one (ps_ret pe_bl))), ?_⟩
    refine ⟨_, rfl, a, _, rfl, .inl hS, _, _, rfl, _, _, rfl, _, rfl, ?_, ?_, for_range (lo := 0) (fun i σ H1 => ∃ v1 v2 v3 v4 v5 v6 v7 v8 v9 v10 v11, σ = [some (.ref a), v1, v2, v3, v4, v5, v6, v7, v8, v9, v10, v11] ∧ Nw tb H H1)
      ⟨_, _, _, _, _, _, _, _, _, _, _, rfl, Nw.refl tab⟩ ?_ ?_⟩
    · split <;> split <;> omega
    · split <;> split <;> omega
    · rintro i0 σ H1 hi ⟨v1, v2, v3, v4, v5, v6, v7, v8, v9, v10, v11, rfl, nw⟩
      refine ⟨_, rfl, _, rfl, a, i0, ns, congrArg (fun y : Int => [V.ref a, V.int y]) (Int.zero_add _), sqL_nw nw hS, fun cell => ⟨cell, rfl, fun p o hp Bo => ?_⟩⟩
      have p0 := nw.free hp
      have nb := nw.new hp (u := o)
      have ep : (upd H1 p o) p = some o := upd_same
      generalize upd H1 p o = H2 at nb ep ⊢
      have b2 : Bx H2 p := ⟨o, ep, Bo⟩
      refine ⟨_, rfl, p, rfl, b2, fun x d1 H3 k3 z1 r1 => ?_⟩
      have m3 := nb.kept p0 b2 k3
      refine ⟨_, rfl, p, rfl, k3.bx, fun y d2 H4 k4 z2 r2 => ?_⟩
      have z1 := Dz.kept k4 k3.bx _ _ z1 r1.nb
      have m4 := m3.kept p0 k3.bx k4
      have b4 : Bx H4 p := k4.bx
      refine ⟨_, rfl, _, rfl, (by show 2 ≤ sizeLine; decide), fun l1 hl1 => ?_⟩
      generalize hG : upd _ _ _ = H5
      obtain ⟨x5, w5⟩ := obj_of hl1 hG
      clear hG
      obtain ⟨a1, a2, a3⟩ := rw_pair w5 (x5.dz z1) (x5.dz z2) r1 r2
      refine ⟨_, _, rfl, a1, a2, a3, ?_⟩
      -- the first walk
      refine ⟨_, rfl, _, rfl, (by show 0 ≤ sizeLine; decide), fun e0 he0 => ?_⟩
      generalize hG : upd _ _ _ = H6
      obtain ⟨x6, w6⟩ := obj_of he0 hG
      clear hG
      refine ⟨(by show 2 ≤ sizeLine; decide), fun t0 ht0 => ?_⟩
      generalize hG : upd _ _ _ = H7
      obtain ⟨x7, w7⟩ := obj_of ht0 hG
      clear hG
      refine ⟨(by show 1 ≤ sizeLine; decide), fun l2 hl2 => ?_⟩
      generalize hG : upd _ _ _ = H8
      obtain ⟨x8, w8⟩ := obj_of hl2 hG
      clear hG
      refine ⟨(by show 4 ≤ sizeLine; decide), fun L hL => ?_⟩
      generalize hG : upd _ _ _ = H9
      obtain ⟨x9, w9⟩ := obj_of hL hG
      clear hG
      have e9 : Exd H4 H9 := (((x5.trans x6).trans x7).trans x8).trans x9
      have n9 : Nw tb H4 H9 := e9.nw m4.tab
      have z1 := e9.dz z1
      have z2 := e9.dz z2
      have b9 := b4.exd e9
      have m9 := m4.trans n9
      have al : DzAll H9 [x, y, .ref e0, .ref l2] [d1, d2, .list [], .list [.tuple [.int 0, .int 400]]] :=
        .cons z1 (.cons z2 (.cons (.lst (((x7.trans x8).trans x9) _ _ w6) .nil) (.cons (.lst (x9 _ _ w8) (.cons (.tup ((x8.trans x9) _ _ w7) (.cons (.int _) (.cons (.int _) .nil))) .nil)) .nil)))
      have rall : ∀ d ∈ [d1, d2, PyData.list [], .list [.tuple [.int 0, .int 400]]], RwD d := by
        simp only [List.forall_mem_cons]
        exact ⟨r1, r2, rw_empty, rw_one (th_lit (by decide +kernel) (by decide +kernel) (by decide +kernel) (by decide +kernel) (by decide +kernel) (by decide +kernel) (by decide +kernel) (by decide +kernel)), fun d hd => nomatch hd⟩
      refine ⟨L, rfl, ⟨_, SqL.of w9⟩, for_list (K := K) (a := L) (xs := [x, y, .ref e0, .ref l2]) (fun i σ H' => Nw tb H9 H' ∧ ∃ v6 v7 v8 v9, σ = [some (.ref a), some (.int ((0 : Int) + (i0 : Int))), some (.ref p), some x, some y, some (.str (PyData.list [d1, d2]).shown), v6, v7, v8, v9, v10, v11])
        ⟨Nw.refl m9.tab, _, _, _, _, rfl⟩ (fun i σ H' _ q => SqL.of (q.1.lst w9)) ?_ ?_⟩
      · rintro i t σ Ha ht ⟨na, u6, u7, u8, u9, rfl⟩
        obtain ⟨dt, hdt, zt⟩ := al.get ht
        have rt := rall dt (List.mem_of_getElem? hdt)
        obtain ⟨yb, wb, ob, eb, hw, hw2, told⟩ := case_row (K := K) (S := D.erNoStretch.C) (N := D.erNoNumber.C) zt rt
        refine ⟨_, rfl, t, _, rfl, (Dz.keep na.keep _ _ zt).runsB, na.tab, fun Hb nb => ?_⟩
        have mb := na.trans nb
        refine ⟨_, rfl, _, rfl, .bl _, _, rfl, iteF ⟨_, rfl, _, rfl, t, dt, rfl, Dz.keep mb.keep _ _ zt, rt.few, mb.tab, fun Hc nc => ?_⟩⟩
        have mc := mb.trans nc
        refine ⟨rfl, _, rfl, ?_⟩
        rw [decide_eq_true rfl]
        refine iteF ⟨_, rfl, t, yb, false, rfl, (told Hc mc.keep).1, mc.tab, fun Hd nd => ?_⟩
        have md := mc.trans nd
        refine ⟨_, rfl, (by show 2 ≤ sizeLine; decide), fun q1 hq1 => ?_⟩
        have me := md.new hq1 (u := .tup [.str "stretch", yb])
        have ee : (upd Hd q1 (.tup [.str "stretch", yb])) q1 = some (.tup (outV (some (true, yb)))) := upd_same
        generalize upd Hd q1 (.tup [.str "stretch", yb]) = He at me ee ⊢
        refine ⟨_, rfl, noneIs, wb, rfl, by decide +kernel, (told He me.keep).2.1, _, rfl, ?_⟩
        cases wb with
        | true =>
          have eo := hw rfl
          refine iteT ⟨(by show 1 ≤ sizeLine; decide), fun q2 hq2 => ?_⟩
          have mf := me.new hq2 (u := .tup [.str "told"])
          have ef : (upd He q2 (.tup [.str "told"])) q2 = some (.tup (outV none)) := upd_same
          generalize upd He q2 (.tup [.str "told"]) = Hf at mf ef ⊢
          refine ⟨_, rfl, 0, t, .int 0, ob, rfl, mf.tab, (told Hf mf.keep).2.2.2 tb mf.tab, fun q Hg ng hq eg => ?_⟩
          have mg := mf.trans ng
          have so := (told Hg mg.keep).2.2.1
          obtain ⟨c1, c2, c3⟩ := so.rep eg
          have ef := ng.tup ef
          rw [← eo] at ef
          obtain ⟨g1, g2, g3⟩ := so.rep ef
          refine ⟨_, _, rfl, c1, c2, c3, _, rfl, _, _, rfl, g1, g2, g3, rfl, _, rfl, ?_⟩
          rw [decide_eq_true rfl]
          exact iteF ⟨mg, _, _, _, _, rfl⟩
        | false =>
          have eo := hw2 rfl
          refine iteF ⟨_, rfl, 0, t, .int 0, ob, rfl, me.tab, (told He me.keep).2.2.2 tb me.tab, fun q Hg ng hq eg => ?_⟩
          have mg := me.trans ng
          have so := (told Hg mg.keep).2.2.1
          obtain ⟨c1, c2, c3⟩ := so.rep eg
          have ef := ng.tup ee
          rw [← eo] at ef
          obtain ⟨g1, g2, g3⟩ := so.rep ef
          refine ⟨_, _, rfl, c1, c2, c3, _, rfl, _, _, rfl, g1, g2, g3, rfl, _, rfl, ?_⟩
          rw [decide_eq_true rfl]
          exact iteF ⟨mg, _, _, _, _, rfl⟩
      · rintro σ Ha ⟨na, u6, u7, u8, u9, rfl⟩
        have mA := m9.trans na
        have bA : Bx Ha p := na.bx b9
        have z1 := Dz.keep na.keep _ _ z1
        have z2 := Dz.keep na.keep _ _ z2
        refine ⟨_, rfl, p, rfl, bA, fun t dt Hb kb zt tht => ?_⟩
        have mB := mA.kept p0 bA kb
        have z1 := Dz.kept kb bA _ _ z1 r1.nb
        have z2 := Dz.kept kb bA _ _ z2 r2.nb
        have bB : Bx Hb p := kb.bx
        refine ⟨_, rfl, t, _, rfl, zt.stB, _, rfl, .bl _, _, rfl, iteF ⟨_, rfl, t, _, rfl, zt.stB, _, rfl, t, dt, rfl, zt, rfl, _, rfl, ?_⟩⟩
        rw [decide_eq_true rfl]
        refine iteF ?_
        -- the rows, three times
        refine ⟨_, rfl, _, rfl, x, y, d1, d2, rfl, z1, r1, z2, r2, mB.tab, fun Hc nc => ⟨_, rfl, iteF ?_⟩⟩
        refine ⟨(by show 2 ≤ sizeLine; decide), fun s1 hs1 => ?_⟩
        generalize hG : upd _ _ _ = Hd
        obtain ⟨xd, wd⟩ := obj_of hs1 hG
        clear hG
        refine ⟨(by show 1 ≤ sizeLine; decide), fun s2 hs2 => ?_⟩
        generalize hG : upd _ _ _ = He
        obtain ⟨xe, we⟩ := obj_of hs2 hG
        clear hG
        have nE : Nw tb Hb He := nc.trans ((xd.trans xe).nw nc.tab)
        refine ⟨_, rfl, .ref s2, y, .list [.tuple [.int 3, .int 5]], d2, rfl, .lst we (.cons (.tup (xe _ _ wd) (.cons (.int _) (.cons (.int _) .nil))) .nil), rw_one (th_lit (by decide +kernel) (by decide +kernel) (by decide +kernel) (by decide +kernel) (by decide +kernel) (by decide +kernel) (by decide +kernel) (by decide +kernel)), Dz.keep nE.keep _ _ z2, r2, nE.tab, fun Hf nf => ⟨_, rfl, iteF ?_⟩⟩
        have nF := nE.trans nf
        refine ⟨_, rfl, (by show 0 ≤ sizeLine; decide), fun s3 hs3 => ?_⟩
        generalize hG : upd _ _ _ = Hg
        obtain ⟨xg, wg⟩ := obj_of hs3 hG
        clear hG
        have nG : Nw tb Hb Hg := nF.trans (xg.nw nF.tab)
        refine ⟨x, .ref s3, d1, .list [], rfl, Dz.keep nG.keep _ _ z1, r1, .lst wg .nil, rw_empty, nG.tab, fun Hh nh => ⟨_, rfl, iteF ?_⟩⟩
        have nH := nG.trans nh
        have mH := mB.trans nH
        have z1 := Dz.keep nH.keep _ _ z1
        have z2 := Dz.keep nH.keep _ _ z2
        have bH : Bx Hh p := nH.bx bB
        -- numbers
        refine ⟨_, rfl, (by show 1 ≤ sizeLine; decide), fun f0 hf0 => ?_⟩
        generalize hG : upd _ _ _ = Hi
        obtain ⟨xi, wi⟩ := obj_of hf0 hG
        clear hG
        refine ⟨_, _, rfl, rfl, ⟨by decide, by decide, by decide⟩, (by show 8 ≤ sizeLine; decide), fun l8 hl8 => ?_⟩
        generalize hG : upd _ _ _ = Hj
        obtain ⟨xj, wj⟩ := obj_of hl8 hG
        clear hG
        have eJ := xi.trans xj
        have bJ : Bx Hj p := bH.exd eJ
        have mJ := mH.trans (eJ.nw mH.tab)
        have alJ : DzAll Hj _ [.int 400, .int (-1), .none, .bool true, .str "5", .list [.int 5], .bool false, .int 100000000000000000000] :=
          .cons (.int _) (.cons (.int _) (.cons .non (.cons (.bl _) (.cons (.str _) (.cons (.lst (xj _ _ wi) (.cons (.int _) .nil)) (.cons (.bl _) (.cons (.int _) .nil)))))))
        refine ⟨_, rfl, p, 8, rfl, bJ, by decide, by decide, fun r Hk s0 s1 kk => ?_⟩
        obtain ⟨m, rfl⟩ := int_of s0
        obtain ⟨v, dv, hv, hdv, zv⟩ := alJ.pick (m := m) (by show m < 8; omega)
        have thv : ThD dv := by
          have all : ∀ d ∈ [PyData.int 400, .int (-1), .none, .bool true, .str "5", .list [.int 5], .bool false, .int 100000000000000000000], ThD d := by
            simp only [List.forall_mem_cons]
            exact ⟨(th_lit (by decide +kernel) (by decide +kernel) (by decide +kernel) (by decide +kernel) (by decide +kernel) (by decide +kernel) (by decide +kernel) (by decide +kernel)), (th_lit (by decide +kernel) (by decide +kernel) (by decide +kernel) (by decide +kernel) (by decide +kernel) (by decide +kernel) (by decide +kernel) (by decide +kernel)), (th_lit (by decide +kernel) (by decide +kernel) (by decide +kernel) (by decide +kernel) (by decide +kernel) (by decide +kernel) (by decide +kernel) (by decide +kernel)), (th_lit (by decide +kernel) (by decide +kernel) (by decide +kernel) (by decide +kernel) (by decide +kernel) (by decide +kernel) (by decide +kernel) (by decide +kernel)), (th_lit (by decide +kernel) (by decide +kernel) (by decide +kernel) (by decide +kernel) (by decide +kernel) (by decide +kernel) (by decide +kernel) (by decide +kernel)), (th_lit (by decide +kernel) (by decide +kernel) (by decide +kernel) (by decide +kernel) (by decide +kernel) (by decide +kernel) (by decide +kernel) (by decide +kernel)), (th_lit (by decide +kernel) (by decide +kernel) (by decide +kernel) (by decide +kernel) (by decide +kernel) (by decide +kernel) (by decide +kernel) (by decide +kernel)), (th_lit (by decide +kernel) (by decide +kernel) (by decide +kernel) (by decide +kernel) (by decide +kernel) (by decide +kernel) (by decide +kernel) (by decide +kernel)), fun d hd => nomatch hd⟩
          exact all dv hdv
        have zv := Dz.kept kk bJ _ _ zv thv.nb
        have z1 := Dz.kept kk bJ _ _ (eJ.dz z1) r1.nb
        have z2 := Dz.kept kk bJ _ _ (eJ.dz z2) r2.nb
        have mK := mJ.kept p0 bJ kk
        refine ⟨l8, _, _, v, rfl, rfl, SqL.of (kk.get bJ wj rfl), hv, (by show 4 ≤ sizeLine; decide), fun S hS => ?_⟩
        generalize hG : upd _ _ _ = Hl
        obtain ⟨xl, wl⟩ := obj_of hS hG
        clear hG
        refine ⟨_, rfl, _, rfl, S, _, rfl, .inl ⟨SqL.of wl, fun T hT => ?_⟩⟩
        generalize hG : upd _ _ _ = Hm
        obtain ⟨xm, wm⟩ := obj_of hT hG
        clear hG
        intro qd hqd
        generalize hG : upd _ _ _ = Hn
        obtain ⟨xn, wn⟩ := obj_of hqd hG
        clear hG
        refine ⟨(by show 6 ≤ sizeLine; decide), fun L6 hL6 => ?_⟩
        generalize hG : upd _ _ _ = Ho
        obtain ⟨xo, wo⟩ := obj_of hL6 hG
        clear hG
        have eO : Exd Hk Ho := ((xl.trans xm).trans xn).trans xo
        have mO := mK.trans (eO.nw mK.tab)
        have z1 := eO.dz z1
        have z2 := eO.dz z2
        have zv := eO.dz zv
        have alS : DzAll Ho [.int 5, .int 399, v, .non] [.int 5, .int 399, dv, .none] := .cons (.int _) (.cons (.int _) (.cons zv (.cons .non .nil)))
        have al6 : DzAll Ho [.ref S, .ref T, .non, .str "5", .ref qd, .int 5] [.list [.int 5, .int 399, dv, .none], .tuple [.int 5, .int 399, dv, .none], .none, .str "5", .dict [], .int 5] :=
          .cons (.lst (((xm.trans xn).trans xo) _ _ wl) alS) (.cons (.tup ((xn.trans xo) _ _ wm) alS) (.cons .non (.cons (.str _) (.cons (.dct (xo _ _ wn)) (.cons (.int _) .nil)))))
        have thS : ∀ e ∈ [PyData.int 5, .int 399, dv, .none], ThD e := by
          simp only [List.forall_mem_cons]
          exact ⟨(th_lit (by decide +kernel) (by decide +kernel) (by decide +kernel) (by decide +kernel) (by decide +kernel) (by decide +kernel) (by decide +kernel) (by decide +kernel)), (th_lit (by decide +kernel) (by decide +kernel) (by decide +kernel) (by decide +kernel) (by decide +kernel) (by decide +kernel) (by decide +kernel) (by decide +kernel)), thv, (th_lit (by decide +kernel) (by decide +kernel) (by decide +kernel) (by decide +kernel) (by decide +kernel) (by decide +kernel) (by decide +kernel) (by decide +kernel)), fun d hd => nomatch hd⟩
        have all6 : ∀ d ∈ [PyData.list [.int 5, .int 399, dv, .none], .tuple [.int 5, .int 399, dv, .none], .none, .str "5", .dict [], .int 5], (∃ ds, (d = .list ds ∨ d = .tuple ds) ∧ (∀ e ∈ ds, ThD e) ∧ ∃ e ∈ ds, numD e = false) ∨ (d = .none ∨ d = .str "5" ∨ d = .dict [] ∨ d = .int 5) := by
          refine List.forall_mem_cons.mpr ⟨.inl ⟨_, .inl rfl, thS, .none, by simp, rfl⟩, List.forall_mem_cons.mpr ⟨.inl ⟨_, .inr rfl, thS, .none, by simp, rfl⟩, List.forall_mem_cons.mpr ⟨.inr (.inl rfl), List.forall_mem_cons.mpr ⟨.inr (.inr (.inl rfl)), List.forall_mem_cons.mpr ⟨.inr (.inr (.inr (.inl rfl))), List.forall_mem_cons.mpr ⟨.inr (.inr (.inr (.inr rfl))), fun d hd => nomatch hd⟩⟩⟩⟩⟩⟩
        refine ⟨L6, rfl, ⟨_, SqL.of wo⟩, for_list (K := K) (a := L6) (xs := [.ref S, .ref T, .non, .str "5", .ref qd, .int 5]) (fun i σ H' => Nw tb Ho H' ∧ ∃ v11, σ = [some (.ref a), some (.int ((0 : Int) + (i0 : Int))), some (.ref p), some x, some y, some (.str (PyData.list [d1, d2]).shown), some t, u7, u8, u9, some (.ref S), v11])
          ⟨Nw.refl mO.tab, _, rfl⟩ (fun i σ H' _ q => SqL.of (q.1.lst wo)) ?_ ?_⟩
        · rintro i th σ Hp hth ⟨np, u11, rfl⟩
          obtain ⟨dth, hdth, zth⟩ := al6.get hth
          obtain ⟨yb, eb, told⟩ := case_num (K := K) (S := D.erNoStretch.C) (N := D.erNoNumber.C) zth (all6 dth (List.mem_of_getElem? hdth))
          refine ⟨_, rfl, 1, th, .int 0, some (false, yb), rfl, np.tab, (told Hp np.keep).2.2 tb np.tab, fun q Hq nq hq eq => ?_⟩
          have mq := np.trans nq
          obtain ⟨c1, c2, c3⟩ := (told Hq mq.keep).2.1.rep eq
          refine ⟨_, _, rfl, c1, c2, c3, ?_⟩
          refine ⟨_, rfl, th, yb, true, rfl, (told Hq mq.keep).1, mq.tab, fun Hr nr => ?_⟩
          have mr := mq.trans nr
          refine ⟨(by show 2 ≤ sizeLine; decide), fun q2 hq2 => ?_⟩
          have ms := mr.new hq2 (u := .tup [.str "number", yb])
          have es : (upd Hr q2 (.tup [.str "number", yb])) q2 = some (.tup (outV (some (false, yb)))) := upd_same
          generalize upd Hr q2 (.tup [.str "number", yb]) = Hs at ms es ⊢
          obtain ⟨g1, g2, g3⟩ := (told Hs ms.keep).2.1.rep es
          refine ⟨_, _, rfl, g1, g2, g3, rfl, _, rfl, ?_⟩
          rw [decide_eq_true rfl]
          exact iteF ⟨ms, _, rfl⟩
        · rintro σ Hp ⟨np, u11, rfl⟩
          have mP := mO.trans np
          have z1 := Dz.keep np.keep _ _ z1
          have z2 := Dz.keep np.keep _ _ z2
          refine ⟨_, rfl, _, rfl, (by show 2 ≤ sizeLine; decide), fun l9 hl9 => ?_⟩
          generalize hG : upd _ _ _ = Hq
          obtain ⟨xq, wq⟩ := obj_of hl9 hG
          clear hG
          obtain ⟨c1, c2, c3⟩ := rw_pair wq (xq.dz z1) (xq.dz z2) r1 r2
          refine ⟨_, _, rfl, c1, c2, c3, _, rfl, rfl, _, rfl, ?_⟩
          rw [decide_eq_true rfl]
          exact iteF ⟨_, _, _, _, _, _, _, _, _, _, _, rfl, mP.trans (xq.nw mP.tab)⟩
    · rintro σ H1 ⟨v1, v2, v3, v4, v5, v6, v7, v8, v9, v10, v11, rfl, nw⟩
      exact k H1
end
end LL
namespace LL
open PySem PySem.Spec PyProof.Rows L2
/-- an own error's facts, put together -/
def er_mk {x fld qual : Str} {st : Stmt} {K : PySem.W.Frag} {mg : Str → Option Value} {C f : Addr} {oc : Value} {od an : Option Addr} {sl : Array (Option Value)} {kV doc pm cdv ct : Value}
    {nm q N bs bm sn sub ab col dd k0 k1 k2 k3 k5} (g : mg x = some (.ref C)) (cls : K.lookup C = some (PySem.excClassObj nm q C N bs bm true sn sub ab col dd k0 k1 k2 k3 k5 "ValueError.__new__")) (ve : PySem.HandSPX.refsVE bm = true)
    (sa : PySem.W.findIn K (.ref C) "__setattr__" = some (some (.builtin "object.__setattr__"))) (ex : PySem.W.subIn K (.ref C) (.type "BaseException") = some true) (ty : PySem.W.typeIn K (.ref C) = some (.type "type")) (kc : PySem.W.keepIn K (.ref C) = true)
    (ga : PySem.W.findIn K (.ref C) "__getattribute__" = some (some (.builtin "BaseException.__getattribute__"))) (gg : PySem.W.findIn K (.ref C) "__getattr__" = some none) (hd : PySem.W.hasDictIn K C = true)
    (no : PySem.W.findIn K (.ref C) fld = some none) (ic : PySem.W.findIn K (.ref C) "__init__" = some (some (.ref f))) (ti : PySem.W.typeIn K (.ref f) = some (.type "function"))
    (l : K.lookup f = some ⟨oc, od, .func (PySem.W.fnOf "__init__" qual (defArgs st) (defBody st) (defScope st) .none kV doc pm an cdv ct), sl⟩) (c : PySem.W.codeIn K cdv qual = true) (k : PySem.W.keepIn K (.ref f) = true)
    (me : PySem.W.subIn K (.ref C) (.ref C) = some true)
    (b : ∀ (kV doc pm : Value) (an : Option Addr) (cdv ct : Value) (us : List Value), us.length = 2 → bindArgs (PySem.W.fnOf "__init__" qual (defArgs st) (defBody st) (defScope st) .none kV doc pm an cdv ct) ⟨us, []⟩ = pure ((["self", fld] : List Str).zip us)) :
    ErC K mg x fld st :=
  ⟨C, f, _, qual, g, ⟨⟨nm, q, N, bs, bm, sn, sub, ab, col, dd, k0, k1, k2, k3, k5, cls, ve⟩, sa, ex, ty, kc⟩, ⟨ga, gg, ex, hd⟩, no, ic, ti, fun_mk l c k, (fun_mk l c k).binds b, PySem.W.exm_ref ex hd ty me⟩
theorem finish {l : PySem.W.OpenLaw} {w : World} {K : PySem.W.Frag} {h : Heap} {mg : Str → Option Value} {fa c tb : Addr} (hfa : mg "law" = some (.ref fa)) (D : Defs K mg) (T : Tx K mg)
    (hc : D.is_runs.fd.code = .ref c) (bind : ∀ (s : Shared) (u : Value), BindsTo s D.law.fd ⟨[u], []⟩ [("_law_script", u)])
    (e1 : h.get? tb = some { cls := .none, data := .fields #[] }) (e2 : K.lookup tb = none) (e3 : PySem.W.CodeHd h c tb) : LawG l w K 14 63 "_law_script" mg fa h := by
  have ef : D.law.f = fa := by
    have := D.law.m.symm.trans hfa
    injection this with this
    injection this
  refine ⟨D.law.fd, [(c, tb)], spLaw K tb, ?_, ?_, ?_, bind, ?_, ?_⟩
  · intro p hp
    rw [List.mem_singleton.mp hp]
    exact e1
  · intro p hp
    rw [List.mem_singleton.mp hp]
    exact e2
  · intro p hp
    rw [List.mem_singleton.mp hp]
    exact e3
  · intro H a ns hl ht hs
    exact ⟨a, ns, rfl, hs, hl, ⟨#[], ht (c, tb) List.mem_cons_self, trivial⟩, fun _ => rfl⟩
  · intro base _ _ TB
    have t := TB (c, tb) List.mem_cons_self
    have ok := ok_law (P := l.prog) (w := w) (base := base) D T hc t
    rw [ef] at ok
    exact ok
end LL
open PySem PySem.W PyProof.Rows in
set_option maxRecDepth 100000 in
set_option maxHeartbeats 0 in
theorem PySem.Challenge.cw_leastlore_k16_rows_refused_holds : PySem.Challenge.rw_leastlore_k16_rows_refused.Holds := by
  w_on; o_law; k_head; (case hw => w_witness2)
  k_fill
  refine LL.walk_G (l := PySem.Challenge.rw_leastlore_k16_rows_refused) (arg := "_law_script") (lvl := 14) (most := 63) rfl (by decide) rfl ⟨rfl, by decide, by decide⟩ (fun w h Y => PySem.W.kIn_of Y) ?F
  case F =>
    intro w mg fa h Y KX G hmg own
    refine' LL.finish hmg ⟨(LL.dn_mk (x := "mask_between") (st := LL.scmaskbetween_st) (ps := ["begin", "end"]) KX G ?ad_mask_between ?ld_mask_between ?cd_mask_between ?kd_mask_between (fun _ _ _ _ _ _ us hl => match us, hl with | [_, _], _ => rfl)), (LL.dn_mk (x := "mask_of") (st := LL.scmaskof_st) (ps := ["runs"]) KX G ?ad_mask_of ?ld_mask_of ?cd_mask_of ?kd_mask_of (fun _ _ _ _ _ _ us hl => match us, hl with | [_], _ => rfl)), (LL.dn_mk (x := "first_in") (st := LL.scfirstin_st) (ps := ["mask"]) KX G ?ad_first_in ?ld_first_in ?cd_first_in ?kd_first_in (fun _ _ _ _ _ _ us hl => match us, hl with | [_], _ => rfl)), (LL.dn_mk (x := "runs_in") (st := LL.scrunsin_st) (ps := ["mask"]) KX G ?ad_runs_in ?ld_runs_in ?cd_runs_in ?kd_runs_in (fun _ _ _ _ _ _ us hl => match us, hl with | [_], _ => rfl)), (LL.dn_mk (x := "is_whole") (st := LL.sciswhole_st) (ps := ["thing"]) KX G ?ad_is_whole ?ld_is_whole ?cd_is_whole ?kd_is_whole (fun _ _ _ _ _ _ us hl => match us, hl with | [_], _ => rfl)), (LL.dn_mk (x := "is_within") (st := LL.sciswithin_st) (ps := ["thing", "low", "high"]) KX G ?ad_is_within ?ld_is_within ?cd_is_within ?kd_is_within (fun _ _ _ _ _ _ us hl => match us, hl with | [_, _, _], _ => rfl)), (LL.dn_mk (x := "is_span") (st := LL.scisspan_st) (ps := ["begin", "end", "most"]) KX G ?ad_is_span ?ld_is_span ?cd_is_span ?kd_is_span (fun _ _ _ _ _ _ us hl => match us, hl with | [_, _, _], _ => rfl)), (LL.dn_mk (x := "is_stretch") (st := LL.scisstretch_st) (ps := ["thing"]) KX G ?ad_is_stretch ?ld_is_stretch ?cd_is_stretch ?kd_is_stretch (fun _ _ _ _ _ _ us hl => match us, hl with | [_], _ => rfl)), (LL.dn_mk (x := "is_runs") (st := LL.scisruns_st) (ps := ["thing"]) KX G ?ad_is_runs ?ld_is_runs ?cd_is_runs ?kd_is_runs (fun _ _ _ _ _ _ us hl => match us, hl with | [_], _ => rfl)), (LL.dn_mk (x := "runs_of") (st := LL.scrunsof_st) (ps := ["stretches"]) KX G ?ad_runs_of ?ld_runs_of ?cd_runs_of ?kd_runs_of (fun _ _ _ _ _ _ us hl => match us, hl with | [_], _ => rfl)), (LL.dn_mk (x := "runs_by") (st := LL.scrunsby_st) (ps := ["numbers"]) KX G ?ad_runs_by ?ld_runs_by ?cd_runs_by ?kd_runs_by (fun _ _ _ _ _ _ us hl => match us, hl with | [_], _ => rfl)), (LL.dn_mk (x := "mask_of_tidy") (st := LL.scmaskoftidy_st) (ps := ["runs"]) KX G ?ad_mask_of_tidy ?ld_mask_of_tidy ?cd_mask_of_tidy ?kd_mask_of_tidy (fun _ _ _ _ _ _ us hl => match us, hl with | [_], _ => rfl)), (LL.dn_mk (x := "joined_runs") (st := LL.scjoinedruns_st) (ps := ["one", "other"]) KX G ?ad_joined_runs ?ld_joined_runs ?cd_joined_runs ?kd_joined_runs (fun _ _ _ _ _ _ us hl => match us, hl with | [_, _], _ => rfl)), (LL.dn_mk (x := "common_runs") (st := LL.sccommonruns_st) (ps := ["one", "other"]) KX G ?ad_common_runs ?ld_common_runs ?cd_common_runs ?kd_common_runs (fun _ _ _ _ _ _ us hl => match us, hl with | [_, _], _ => rfl)), (LL.dn_mk (x := "less_runs") (st := LL.sclessruns_st) (ps := ["one", "other"]) KX G ?ad_less_runs ?ld_less_runs ?cd_less_runs ?kd_less_runs (fun _ _ _ _ _ _ us hl => match us, hl with | [_, _], _ => rfl)), (LL.dn_mk (x := "how_many") (st := LL.schowmany_st) (ps := ["runs"]) KX G ?ad_how_many ?ld_how_many ?cd_how_many ?kd_how_many (fun _ _ _ _ _ _ us hl => match us, hl with | [_], _ => rfl)), (LL.dn_mk (x := "numbers_in") (st := LL.scnumbersin_st) (ps := ["runs"]) KX G ?ad_numbers_in ?ld_numbers_in ?cd_numbers_in ?kd_numbers_in (fun _ _ _ _ _ _ us hl => match us, hl with | [_], _ => rfl)), (LL.dn_mk (x := "has_number") (st := LL.schasnumber_st) (ps := ["runs", "thing"]) KX G ?ad_has_number ?ld_has_number ?cd_has_number ?kd_has_number (fun _ _ _ _ _ _ us hl => match us, hl with | [_, _], _ => rfl)), (LL.dn_mk (x := "_law_cell_at") (st := LL.scLcellat_st) (ps := ["_law_script", "_law_k"]) KX G ?ad_law_cell_at ?ld_law_cell_at ?cd_law_cell_at ?kd_law_cell_at (fun _ _ _ _ _ _ us hl => match us, hl with | [_, _], _ => rfl)), (LL.dn_mk (x := "_law_box") (st := LL.scLbox_st) (ps := ["_law_cell"]) KX G ?ad_law_box ?ld_law_box ?cd_law_box ?kd_law_box (fun _ _ _ _ _ _ us hl => match us, hl with | [_], _ => rfl)), (LL.dn_mk (x := "_law_take") (st := LL.scLtake_st) (ps := ["_law_box_here", "_law_many"]) KX G ?ad_law_take ?ld_law_take ?cd_law_take ?kd_law_take (fun _ _ _ _ _ _ us hl => match us, hl with | [_, _], _ => rfl)), (LL.dn_mk (x := "_law_whole") (st := LL.scLwhole_st) (ps := ["_law_thing_here"]) KX G ?ad_law_whole ?ld_law_whole ?cd_law_whole ?kd_law_whole (fun _ _ _ _ _ _ us hl => match us, hl with | [_], _ => rfl)), (LL.dn_mk (x := "_law_good") (st := LL.scLgood_st) (ps := ["_law_thing_here"]) KX G ?ad_law_good ?ld_law_good ?cd_law_good ?kd_law_good (fun _ _ _ _ _ _ us hl => match us, hl with | [_], _ => rfl)), (LL.dn_mk (x := "_law_tidy") (st := LL.scLtidy_st) (ps := ["_law_thing_here"]) KX G ?ad_law_tidy ?ld_law_tidy ?cd_law_tidy ?kd_law_tidy (fun _ _ _ _ _ _ us hl => match us, hl with | [_], _ => rfl)), (LL.dn_mk (x := "_law_thing") (st := LL.scLthing_st) (ps := ["_law_box_here"]) KX G ?ad_law_thing ?ld_law_thing ?cd_law_thing ?kd_law_thing (fun _ _ _ _ _ _ us hl => match us, hl with | [_], _ => rfl)), (LL.dn_mk (x := "_law_row") (st := LL.scLrow_st) (ps := ["_law_box_here"]) KX G ?ad_law_row ?ld_law_row ?cd_law_row ?kd_law_row (fun _ _ _ _ _ _ us hl => match us, hl with | [_], _ => rfl)), (LL.dn_mk (x := "_law_done") (st := LL.scLdone_st) (ps := ["_law_way", "_law_one", "_law_other"]) KX G ?ad_law_done ?ld_law_done ?cd_law_done ?kd_law_done (fun _ _ _ _ _ _ us hl => match us, hl with | [_, _, _], _ => rfl)), (LL.dn_mk (x := "_law_told") (st := LL.scLtold_st) (ps := ["_law_way", "_law_one", "_law_other"]) KX G ?ad_law_told ?ld_law_told ?cd_law_told ?kd_law_told (fun _ _ _ _ _ _ us hl => match us, hl with | [_, _, _], _ => rfl)), (LL.dn_mk (x := "_law_rows_right") (st := LL.scLrowsright_st) (ps := ["_law_one", "_law_other"]) KX G ?ad_law_rows_right ?ld_law_rows_right ?cd_law_rows_right ?kd_law_rows_right (fun _ _ _ _ _ _ us hl => match us, hl with | [_, _], _ => rfl)), (LL.dn_mk (x := "_law_first_bad") (st := LL.scLfirstbad_st) (ps := ["_law_things", "_law_numbers"]) KX G ?ad_law_first_bad ?ld_law_first_bad ?cd_law_first_bad ?kd_law_first_bad (fun _ _ _ _ _ _ us hl => match us, hl with | [_, _], _ => rfl)), (LL.dn_mk (x := "law") (st := LL.sclaw_st) (ps := ["_law_script"]) KX G ?ad_law ?ld_law ?cd_law ?kd_law (fun _ _ _ _ _ _ us hl => match us, hl with | [_], _ => rfl)), (LL.er_mk (qual := "NoNumber.__init__") (PySem.W.mg_of KX G ?eg_NoNumber) ?ecl_NoNumber ?eve_NoNumber ?esa_NoNumber ?eex_NoNumber ?ety_NoNumber ?ekc_NoNumber ?ega_NoNumber ?egg_NoNumber ?ehd_NoNumber ?eno_NoNumber ?eic_NoNumber ?eti_NoNumber ?el_NoNumber ?ec_NoNumber ?ek_NoNumber ?eme_NoNumber (fun _ _ _ _ _ _ us hl => match us, hl with | [_, _], _ => rfl)), (LL.er_mk (qual := "NoStretch.__init__") (PySem.W.mg_of KX G ?eg_NoStretch) ?ecl_NoStretch ?eve_NoStretch ?esa_NoStretch ?eex_NoStretch ?ety_NoStretch ?ekc_NoStretch ?ega_NoStretch ?egg_NoStretch ?ehd_NoStretch ?eno_NoStretch ?eic_NoStretch ?eti_NoStretch ?el_NoStretch ?ec_NoStretch ?ek_NoStretch ?eme_NoStretch (fun _ _ _ _ _ _ us hl => match us, hl with | [_, _], _ => rfl)), (LL.exn_mk (PySem.W.mg_of KX G ?lore)), (PySem.W.exm_ref ?nsx ?nsh ?nst ?nss)⟩ (LL.tx_mk (PySem.W.mg_none_of KX G ?z_len) (PySem.W.mg_none_of KX G ?z_range) (PySem.W.mg_none_of KX G ?z_isinstance) (PySem.W.mg_none_of KX G ?z_int) (PySem.W.mg_none_of KX G ?z_tuple) (PySem.W.mg_none_of KX G ?z_max) (PySem.W.mg_none_of KX G ?z_repr) (PySem.W.mg_none_of KX G ?z_bool) (PySem.W.mg_none_of KX G ?z_list) (PySem.W.mg_none_of KX G ?z_all) (PySem.W.mg_none_of KX G ?z_min) (PySem.W.mg_of KX G ?g_MOST_END)) ?zc0 (fun s u => .of_eq rfl) ?zt0_1 ?zt0_2 ?zt0_3
    (case eg_NoNumber => k_is)
    (case eic_NoNumber => k_is)
    (case ecl_NoNumber => k_is)
    (case eve_NoNumber => first | rfl | decide +kernel)
    (case esa_NoNumber => k_is)
    (case eex_NoNumber => k_is)
    (case ety_NoNumber => k_is)
    (case ekc_NoNumber => k_is)
    (case ega_NoNumber => k_is)
    (case egg_NoNumber => k_is)
    (case ehd_NoNumber => k_is)
    (case eno_NoNumber => k_is)
    (case eti_NoNumber => k_is)
    (case el_NoNumber => k_is)
    (case ec_NoNumber => k_is)
    (case ek_NoNumber => k_is)
    (case eme_NoNumber => k_is)
    (case eg_NoStretch => k_is)
    (case eic_NoStretch => k_is)
    (case ecl_NoStretch => k_is)
    (case eve_NoStretch => first | rfl | decide +kernel)
    (case esa_NoStretch => k_is)
    (case eex_NoStretch => k_is)
    (case ety_NoStretch => k_is)
    (case ekc_NoStretch => k_is)
    (case ega_NoStretch => k_is)
    (case egg_NoStretch => k_is)
    (case ehd_NoStretch => k_is)
    (case eno_NoStretch => k_is)
    (case eti_NoStretch => k_is)
    (case el_NoStretch => k_is)
    (case ec_NoStretch => k_is)
    (case ek_NoStretch => k_is)
    (case eme_NoStretch => k_is)
    (case lore => k_is)
    (case nsx => (dsimp only [LL.er_mk]; k_is))
    (case nsh => (dsimp only [LL.er_mk]; k_is))
    (case nst => (dsimp only [LL.er_mk]; k_is))
    (case nss => (dsimp only [LL.er_mk]; k_is))
    (case ad_law => k_is)
    (case ld_law => k_is)
    (case cd_law => k_is)
    (case kd_law => k_is)
    (case ad_law_first_bad => k_is)
    (case ld_law_first_bad => k_is)
    (case cd_law_first_bad => k_is)
    (case kd_law_first_bad => k_is)
    (case ad_law_rows_right => k_is)
    (case ld_law_rows_right => k_is)
    (case cd_law_rows_right => k_is)
    (case kd_law_rows_right => k_is)
    (case ad_law_told => k_is)
    (case ld_law_told => k_is)
    (case cd_law_told => k_is)
    (case kd_law_told => k_is)
    (case ad_law_done => k_is)
    (case ld_law_done => k_is)
    (case cd_law_done => k_is)
    (case kd_law_done => k_is)
    (case ad_law_row => k_is)
    (case ld_law_row => k_is)
    (case cd_law_row => k_is)
    (case kd_law_row => k_is)
    (case ad_law_thing => k_is)
    (case ld_law_thing => k_is)
    (case cd_law_thing => k_is)
    (case kd_law_thing => k_is)
    (case ad_law_tidy => k_is)
    (case ld_law_tidy => k_is)
    (case cd_law_tidy => k_is)
    (case kd_law_tidy => k_is)
    (case ad_law_good => k_is)
    (case ld_law_good => k_is)
    (case cd_law_good => k_is)
    (case kd_law_good => k_is)
    (case ad_law_whole => k_is)
    (case ld_law_whole => k_is)
    (case cd_law_whole => k_is)
    (case kd_law_whole => k_is)
    (case ad_law_take => k_is)
    (case ld_law_take => k_is)
    (case cd_law_take => k_is)
    (case kd_law_take => k_is)
    (case ad_law_box => k_is)
    (case ld_law_box => k_is)
    (case cd_law_box => k_is)
    (case kd_law_box => k_is)
    (case ad_law_cell_at => k_is)
    (case ld_law_cell_at => k_is)
    (case cd_law_cell_at => k_is)
    (case kd_law_cell_at => k_is)
    (case ad_has_number => k_is)
    (case ld_has_number => k_is)
    (case cd_has_number => k_is)
    (case kd_has_number => k_is)
    (case ad_numbers_in => k_is)
    (case ld_numbers_in => k_is)
    (case cd_numbers_in => k_is)
    (case kd_numbers_in => k_is)
    (case ad_how_many => k_is)
    (case ld_how_many => k_is)
    (case cd_how_many => k_is)
    (case kd_how_many => k_is)
    (case ad_less_runs => k_is)
    (case ld_less_runs => k_is)
    (case cd_less_runs => k_is)
    (case kd_less_runs => k_is)
    (case ad_common_runs => k_is)
    (case ld_common_runs => k_is)
    (case cd_common_runs => k_is)
    (case kd_common_runs => k_is)
    (case ad_joined_runs => k_is)
    (case ld_joined_runs => k_is)
    (case cd_joined_runs => k_is)
    (case kd_joined_runs => k_is)
    (case ad_mask_of_tidy => k_is)
    (case ld_mask_of_tidy => k_is)
    (case cd_mask_of_tidy => k_is)
    (case kd_mask_of_tidy => k_is)
    (case ad_runs_by => k_is)
    (case ld_runs_by => k_is)
    (case cd_runs_by => k_is)
    (case kd_runs_by => k_is)
    (case ad_runs_of => k_is)
    (case ld_runs_of => k_is)
    (case cd_runs_of => k_is)
    (case kd_runs_of => k_is)
    (case ad_is_runs => k_is)
    (case ld_is_runs => k_is)
    (case cd_is_runs => k_is)
    (case kd_is_runs => k_is)
    (case ad_is_stretch => k_is)
    (case ld_is_stretch => k_is)
    (case cd_is_stretch => k_is)
    (case kd_is_stretch => k_is)
    (case ad_is_span => k_is)
    (case ld_is_span => k_is)
    (case cd_is_span => k_is)
    (case kd_is_span => k_is)
    (case ad_is_within => k_is)
    (case ld_is_within => k_is)
    (case cd_is_within => k_is)
    (case kd_is_within => k_is)
    (case ad_is_whole => k_is)
    (case ld_is_whole => k_is)
    (case cd_is_whole => k_is)
    (case kd_is_whole => k_is)
    (case ad_runs_in => k_is)
    (case ld_runs_in => k_is)
    (case cd_runs_in => k_is)
    (case kd_runs_in => k_is)
    (case ad_first_in => k_is)
    (case ld_first_in => k_is)
    (case cd_first_in => k_is)
    (case kd_first_in => k_is)
    (case ad_mask_of => k_is)
    (case ld_mask_of => k_is)
    (case cd_mask_of => k_is)
    (case kd_mask_of => k_is)
    (case ad_mask_between => k_is)
    (case ld_mask_between => k_is)
    (case cd_mask_between => k_is)
    (case kd_mask_between => k_is)
    (case z_len => k_is)
    (case z_range => k_is)
    (case z_isinstance => k_is)
    (case z_int => k_is)
    (case z_tuple => k_is)
    (case z_max => k_is)
    (case z_repr => k_is)
    (case z_bool => k_is)
    (case z_list => k_is)
    (case z_all => k_is)
    (case z_min => k_is)
    (case g_MOST_END => k_is)
    (case zc0 => rfl)
    (case zt0_1 => (refine' LL.own_mk (fun f hf => own "is_runs" f (by decide +kernel) hf) (PySem.W.mg_of KX G ?mm) ?y0 ?y1 ?y2 ?y3 ?y4; (case mm => k_is); (case y0 => k_is); (case y1 => rfl); (case y2 => rfl); (case y3 => k_is); (case y4 => rfl)))
    (case zt0_2 => first | rfl | kernel_rfl)
    (case zt0_3 => (refine' LL.code_mk KX ?lk ?x2 ?x3 ?x4 ?x5 ?x6 ?x7 ?x8; (case lk => k_is); (case x2 => rfl); (case x3 => rfl); (case x4 => rfl); (case x5 => rfl); (case x6 => rfl); (case x7 => rfl); (case x8 => decide)))
