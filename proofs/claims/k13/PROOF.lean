import PyProof.Rows.All
import Wide.All
import OpenK.AllK
import Wide.FinOn
import HandS.ForMost
import HandS.AnyAll
import HandS.EndTab
import HandS.EndOwn
import PyProof.ReprRoads
import HandS.GenOver
import HandS.WideBits
import HandS.IsInst
import HandS.Style
import HandS.Wide
import HandS.Flow
import HandS.NoneIn
import HandS.Conv
import HandS.RevTup
import HandS.Rev
import KE.KRevSl
import HandS.Strs
import HandS.DictComp
import KE.GoesMore
import HandS.More
import HandS.RevRange
import HandS.Text
import HandS.ForExc
import HandS.TryMany
import HandS.ExcInit
import HandS.ExcField
import HandS.ExcIs
import PyProof.NeKinds
import HandS.RaiseMore
import HandS.Defaults
import HandS.ExcOwn
import HandS.SuiteRaise
import HandS.RaiseFrom
import HandS.ExcInitHot
import PySem.Challenge.RW_leastlore_k13_frames_refused
import HandS.TupMul
import HandS.TupAny
set_option Elab.async false
set_option linter.all false
set_option maxRecDepth 100000
set_option maxHeartbeats 4000000
namespace LL
open PySem PySem.Spec PyProof.Rows L2
/-! ### defs that are called where no repr runs -/
/-- as FnOk, but only where it is known that no repr is under way -/
structure FnG (P : Program) (w : World) (K : PySem.W.Frag) (mg : Str → Option Value) (base : Heap) (k : Nat) (f : Addr) (fd : FuncData) (ps : List Str) (sp : Sp) : Prop where
  len : ∀ vs H Q E, sp vs H Q E → vs.length = ps.length
  run : ∀ (A : Around) (outer : List Env) (s : Shared) (H : Hp) (args : Args) (us : List Value) (vs : List V) (Q : VK) (E : XK),
    A.guards = some [] → Room k A → Env0 P w K mg base A outer s H → BindsTo s fd args (ps.zip us) → Vals vs us → sp vs H Q E →
    codeAny (model P w) A (.call (.ref f) args) (CR CX0 outer P w H s Q E) s
section
variable {P : Program} {w : World} {K : PySem.W.Frag} {mg : Str → Option Value} {base : Heap}
theorem fnG_of {x : Str} {st : Stmt} {f : Addr} {fd : FuncData} {N ps : List Str} {k : Nat} {sp : Sp} (F : Fun K x x st f fd) (S : FnScope N ps (defScope st))
    (len : ∀ vs H Q E, sp vs H Q E → vs.length = ps.length)
    (body : ∀ (cdv : Value) (A : Around) (outer : List Env) (s : Shared) (H : Hp) (vs : List V) (Q : VK) (E : XK), A.guards = some [] →
      Room k (A.deeper (envOfC x (defScope st) s.heap.objs.size f cdv)) → sp vs H Q E →
      ∃ t, PSs (cxOf CX0 P w K mg base N x (defScope st) f cdv A outer s H E).nox (defBody st) t ∧ t { nx := fun _ H' => Q .non H', rt := Q } (start N vs) H) :
    FnG P w K mg base (k + 1) f fd ps sp := by
  refine ⟨len, fun A outer s H args us vs Q E guard room e0 bind rel want => ?_⟩
  obtain ⟨c1, d1, kv, doc, pm, an, cdv, c2, sl, rfl, look, isCode⟩ := F.ex
  have long := len _ _ _ _ want
  have inK : K.In s.heap := e0.mod.kin.keeps fun b o e => (e0.bs b o e).1
  have free : s.heap.NoLimit := e0.mod.nolimit.keeps fun b o e => (e0.bs b o e).1
  have pars : ∀ y ∈ ps.zip us, (defScope st).names.lookup y.1 = some .local ∨
      ((defScope st).names.lookup y.1 = some .cell ∧ ((cellsFrom (s.heap.objs.size + 1) (defScope st).names []).lookup y.1).isSome = true) := by
    rintro ⟨n, v⟩ hy
    rcases S.par n (List.of_mem_zip hy).1 with q | q
    · exact Or.inl q
    · exact Or.inr ⟨q, PySem.W.cellsFrom_some _ _ _ (Or.inl q)⟩
  refine codeAny_call_function room.depth (inK _ _ look) rfl S.co S.gen rfl (PySem.W.codeRec_of inK isCode) (bind _ _ _ _ ?_)
  refine wpAny_newFunctionEnv_cells S.kind pars fun env isEnv s1 made => ?_
  subst isEnv
  refine ⟨free.keeps made.toInCall.keep, codeAny_func ?_⟩
  obtain ⟨t, ht, hq⟩ := body cdv A outer s H vs Q E guard (room.deeper _) want
  have I := inv_start (CX := CX0) (E := E) S room.hd e0 long rel made
  have ht2 := ht.nox
  refine wpAny_mono (ht2.run [] s1 (start N vs) H _ I hq) (fun fl s' end_ => ?_) fun e s' z => z
  cases fl with
  | ret u =>
    obtain ⟨v, σ', H', J, rv, q⟩ := end_
    exact ⟨v, H', J.os, J.bare, J.base, J.hok, rv, q⟩
  | next =>
    obtain ⟨σ', H', J, q⟩ := end_
    exact ⟨.non, H', J.os, J.bare, J.base, J.hok, rfl, q⟩
  | brk =>
    obtain ⟨_, _, _, q⟩ := end_
    exact False.elim q
  | cont =>
    obtain ⟨_, _, _, q⟩ := end_
    exact False.elim q
end
/-- f(e, ..) for such a def -/
theorem pe_callG {X : Cx} {k : Nat} {f : Addr} {fd : FuncData} {ps : List Str} {sp : Sp} {x : Str} {p pos : Pos} {e : Expr} {es : List Expr} {t : TA}
    (F : FnG X.prog X.w X.K X.mg X.base k f fd ps sp) (guard : X.A.guards = some []) (room : Room k X.A) (hg : Gl X x) (hm : X.mg x = some (.ref f))
    (kp : PySem.W.keepIn X.K (.ref f) = true) (hb : Binds X.K fd ps []) (ha : PA X (e :: es) t) (hd : (x == ("__debug__" : Str)) = false := by decide)
    (he : starEach (e :: es) X.env = (false, eval e X.env) :: starEach es X.env := by rfl) (hp : (backTo pos (starEach es X.env)).any (·.1) = false := by rfl) :
    PE X (.Call (.Name x p) (e :: es) [] pos) (tCall sp [] E0 t) := by
  refine ⟨fun pins s σ H Q I h => wpAny_Call_Name_kw (ld_glob I hg hm ?_ hd)⟩
  refine PySem.W.callWith_K (h₀ := X.base) I.ok.mod.kin kp (thn (ha.run pos pins s σ H _ I h) fun us s1 ⟨vs, H1, J, rel, want⟩ => ⟨J.kIn, ?_⟩) he hp
  have want : sp (vs ++ []) H1 Q E0 := want
  rw [List.append_nil] at want
  have long : (us ++ []).length = ps.length := by
    rw [List.append_nil, ← rel.length]
    exact F.len _ _ _ _ want
  have bind := hb s1 us J.kIn long
  rw [List.append_nil] at bind
  refine wpAny_call (codeAny_mono (F.run X.A X.stack s1 H1 ⟨us, []⟩ us vs Q E0 guard room J.env0 bind rel want) fun r s' got => ?_)
  cases r with
  | error _ => exact False.elim got
  | ok fl =>
    cases fl with
    | ret u => exact J.after got
    | next => exact False.elim got
    | brk => exact False.elim got
    | cont => exact False.elim got
/-- repr of data -/
theorem call_reprD {X : Cx} (guard : X.A.guards = some []) {k : Nat} (room : Room k X.A) : CallR X (.builtin "repr") (fun xs H Q => ∃ v d, xs = [v] ∧ Dp X.K H v d ∧ isDisplay d = true ∧
    d.showable = true ∧ d.hasDict = false ∧ d.depth ≤ 60 ∧ d.shown.length ≤ sizeLine ∧ Q (.str d.shown) H) := by
  intro pins s σ H xs us Q I r ⟨v, d, e, dp, disp, sh, nd, dep, len, q⟩
  subst e
  obtain ⟨u, rfl, r1⟩ := vals1 r
  obtain ⟨as, rd⟩ := Dp.reads I d v u dp r1
  obtain ⟨a, rfl⟩ := isRef_of_reads rd disp
  exact repr_of_reads' rd sh (PyData.noDict_hsm nd) guard (by have := room.un; omega) (fun _ _ e => e)
    (fun h' u tk keep => ⟨.str _, H, I.kept keep, ⟨_, rfl⟩, q⟩) len
end LL
namespace LL
open PySem PySem.Spec PyProof.Rows L2
/-- what is tracked at a law's entry: the tables, and the script where it is no written thing -/
def entryH (T : List Addr) (K : PySem.W.Frag) (a : Addr) (scr : Obj) (ns : List Int) : Hp := fun b =>
  if b ∈ T then some (.tbl #[]) else if b = a ∧ K.lookup a = none then some (.frz scr (.lst (ns.map V.int))) else none
theorem entry_tab {T : List Addr} {K : PySem.W.Frag} {a b : Addr} {scr : Obj} {ns : List Int} (h : b ∈ T) : entryH T K a scr ns b = some (.tbl #[]) := if_pos h
theorem entry_cases {T : List Addr} {K : PySem.W.Frag} {a b : Addr} {scr : Obj} {ns : List Int} {u : HO} (h : entryH T K a scr ns b = some u) :
    (b ∈ T ∧ u = .tbl #[]) ∨ (b ∉ T ∧ b = a ∧ K.lookup a = none ∧ u = .frz scr (.lst (ns.map V.int))) := by
  unfold entryH at h
  by_cases m : b ∈ T
  · rw [if_pos m] at h
    exact Or.inl ⟨m, (Option.some.inj h).symm⟩
  · rw [if_neg m] at h
    by_cases q : b = a ∧ K.lookup a = none
    · rw [if_pos q] at h
      exact Or.inr ⟨m, q.1, q.2, (Option.some.inj h).symm⟩
    · rw [if_neg q] at h
      cases h
abbrev noTable : Obj := { cls := .none, data := .fields #[] }
theorem law_callG {P : Program} {w : World} {K : PySem.W.Frag} {mg mb : Str → Option Value} {k : Nat} {fa a : Addr} {cs : List (Addr × Addr)} {fd : FuncData} {x : Str} {sp : Sp} {s : Shared} {vals : List Value} {ns : List Int}
    (inK : K.In s.heap) (glob : s.heap.Ns mainGlobals mg) (blt : s.heap.Ns builtinsNs mb) (boot : ∀ y : Str, y ≠ "__name__" → mb y = bootBuiltins y) (free : s.heap.NoLimit) (noGen : s.gens = #[])
    (tabs : ∀ p ∈ cs, s.heap.get? p.2 = some noTable) (outK : ∀ p ∈ cs, K.lookup p.2 = none) (codes : ∀ p ∈ cs, PySem.W.CodeHd s.heap p.1 p.2)
    (main : ∃ (bm : Addr) (ob : Obj), mg "__builtins__" = some (.ref bm) ∧ bm ≠ builtinsNs ∧ s.heap.get? bm = some ob ∧ ob.cls = .type "module" ∧ ob.dict = some builtinsNs ∧ ob.data = .plain)
    (scr : s.heap.get? a = some { cls := .type "list", data := .seq vals.toArray }) (are : IntsAre vals ns) (few : ns.length ≤ sizeLine) (room : Room k callerA)
    (F : ∀ base : Heap, K.In base → base.Ns mainGlobals mg → (∀ p ∈ cs, GxR.TabB base mg p.1 p.2) → FnG P w K mg base k fa fd [x] sp)
    (bind : ∀ (s : Shared) (u : Value), BindsTo s fd ⟨[u], []⟩ [(x, u)])
    (ask : ∀ H : Hp, (∀ p ∈ cs, H p.2 = some (.tbl #[])) → SqL K H a (ns.map V.int) → sp [.ref a] H (fun v _ => v = .bl true) fun _ _ _ => False) :
    codeAny (model P w) callerA (.call (.ref fa) ⟨[.ref a], []⟩) (fun r s' => r = .ok (.ret (.bool true)) ∧ OldK s.heap s'.heap ∧ s'.os = s.os ∧ AllBare s'.gens) s := by
  let T : List Addr := cs.map (·.2)
  have tabAt : ∀ b, b ∈ T → s.heap.get? b = some noTable := fun b hb => by
    obtain ⟨p, hp, rfl⟩ := List.mem_map.mp hb
    exact tabs p hp
  have mem : ∀ p ∈ cs, p.2 ∈ T := fun p hp => List.mem_map_of_mem hp
  let H : Hp := entryH T K a { cls := .type "list", data := .seq vals.toArray } ns
  have aT : a ∉ T := fun z => by
    have q := tabAt a z
    rw [scr] at q
    have z' := congrArg Obj.data (Option.some.inj q)
    cases z'
  have rel := vals_ints are
  have seqA : SqL K H a (ns.map V.int) := by
    cases lk : K.lookup a with
    | some o =>
      have e := inK a o lk
      rw [scr] at e
      cases e
      exact .inr ⟨_, vals.toArray, _, lk, rfl, rfl, rfl, by rw [List.size_toArray, are.length]; exact few, by simpa using rel⟩
    | none =>
      refine .inl (.inr ⟨{ cls := .type "list", data := .seq vals.toArray }, ?_⟩)
      show entryH T K a _ ns a = _
      unfold entryH
      rw [if_neg aT, if_pos ⟨rfl, lk⟩]
  have ok : HOk P w H s.heap := fun b u e => by
    rcases entry_cases e with ⟨m, rfl⟩ | ⟨_, rfl, _, rfl⟩
    · exact tabAt b m
    · exact ⟨scr, by rw [List.length_map]; exact few, vals, _, rel, scr⟩
  -- what is of another kind isn't tracked
  have clear : ∀ {b : Addr} {o : Obj}, s.heap.get? b = some o → (∀ vs n, o.data ≠ .seq vs n) → o.data ≠ .fields #[] → H b = none := fun {b o} e n1 n2 => by
    cases q : H b with
    | none => rfl
    | some u =>
      rcases entry_cases q with ⟨m, _⟩ | ⟨_, rfl, _, _⟩
      · rw [tabAt b m] at e
        cases e
        exact absurd rfl n2
      · rw [scr] at e
        cases e
        exact absurd rfl (n1 _ _)
  have keepNs : ∀ {b : Addr} {m : Str → Option Value}, s.heap.Ns b m → (hidT s.heap H).Ns b m := fun {b m} ⟨o, es, ep, e, d, r⟩ => by
    refine ⟨o, es, ep, hidT_get e (clear e (fun vs n z => ?_) fun z => ?_), d, r⟩
    · rw [d] at z
      cases z
    · rw [d] at z
      cases z
  have inB : K.In (hidT s.heap H) := fun b o e => hidT_get (inK b o e) (by
    cases q : H b with
    | none => rfl
    | some u =>
      rcases entry_cases q with ⟨m, _⟩ | ⟨_, rfl, l, _⟩
      · obtain ⟨p, hp, rfl⟩ := List.mem_map.mp m
        rw [outK p hp] at e
        cases e
      · rw [l] at e
        cases e)
  have tabB : ∀ p ∈ cs, GxR.TabB (hidT s.heap H) mg p.1 p.2 := fun p hp => by
    have tp := tabs p hp
    refine ⟨?_, ?_, fun z => ?_⟩
    · obtain ⟨o, us, file, tf, fl, tg, inF, tx, tt, g1, g2, g3, g4, g5⟩ := codes p hp
      refine ⟨o, us, file, tf, fl, tg, inF, tx, tt, hidT_get g1 (clear g1 (fun vs n z => ?_) fun z => ?_), g2, g3, g4, g5⟩
      · rw [g3] at z
        cases z
      · rw [g3] at z
        cases z
        simp at g4
    · obtain ⟨bm, ob, b1, b2, b3, b4, b5, b6⟩ := main
      have nG : bm ≠ mainGlobals := fun q => by
        obtain ⟨o, es, ep, e, d, _⟩ := glob
        rw [q, e] at b3
        cases b3
        rw [d] at b6
        cases b6
      have nP : bm ≠ p.2 := fun q => by
        rw [q, tp] at b3
        cases b3
        cases b6
      refine ⟨bm, ob, b1, b2, nG, nP, hidT_get b3 (clear b3 (fun vs n z => ?_) fun z => ?_), b4, b5, b6⟩
      · rw [b6] at z
        cases z
      · rw [b6] at z
        cases z
    · obtain ⟨o, es, ep, e, d, _⟩ := glob
      rw [z, tp] at e
      cases e
      cases d
  have modB : L2.Mod K mg (hidT s.heap H) := ⟨inB, keepNs glob, ⟨mb, keepNs blt, boot⟩, by
    obtain ⟨mc, l1, l2⟩ := free
    exact ⟨mc, keepNs l1, l2⟩⟩
  have e0 : Env0 P w K mg (hidT s.heap H) callerA [] s H :=
    ⟨rfl, modB, fun b o e => of_hidT e, Nat.le_of_eq (hidT_size _ _), trivial, (fun b hb => absurd (show b ∈ ([] : List Addr) from hb) (by simp)), ok, .of_eq noGen⟩
  have run := (F _ inB (keepNs glob) tabB).run callerA [] s H ⟨[.ref a], []⟩ [.ref a] [.ref a] _ _ rfl room e0 (bind s (.ref a)) (.cons rfl .nil)
    (ask H (fun p hp => entry_tab (mem p hp)) seqA)
  refine codeAny_mono run fun r s' got => ?_
  cases r with
  | error _ => exact False.elim got
  | ok fl =>
    cases fl with
    | next => exact False.elim got
    | brk => exact False.elim got
    | cont => exact False.elim got
    | ret u =>
      obtain ⟨v, H', os, bare, un, ok', rv, q⟩ := got
      have qv : v = .bl true := q
      subst qv
      obtain rfl : u = Value.bool true := rv
      have grown : ∀ b, b ∈ T → ∃ more : Array Value, s'.heap.get? b = some { cls := .none, data := .fields more } := fun b hb => by
        obtain ⟨more, z⟩ := un.tbls b #[] (entry_tab hb)
        exact ⟨_, ok' b _ z⟩
      have stays : ∀ b o, b ∉ T → s.heap.get? b = some o → s'.heap.get? b = some o := fun b o n e => by
        cases q : H b with
        | none => exact un.keep b o e q (fun z => absurd (show b ∈ ([] : List Addr) from z) (by simp)) (by simp)
        | some u =>
          rcases entry_cases q with ⟨m, _⟩ | ⟨_, rfl, _, rfl⟩
          · exact absurd m n
          · obtain ⟨e2, _⟩ := ok' b _ (un.frzs b _ _ q)
            rw [scr] at e
            cases e
            exact e2
      refine ⟨rfl, ⟨fun b o e => ?_, fun b o e => ?_⟩, os, bare⟩
      · by_cases m : b ∈ T
        · obtain ⟨more, z⟩ := grown b m
          obtain ⟨p, hp, rfl⟩ := List.mem_map.mp m
          rw [tabs p hp] at e
          cases e
          exact .inr (.inl ⟨((codes p hp).tab (tabs p hp)).isCodeTable, rfl, #[], more, rfl, by rw [Array.empty_append]; exact z⟩)
        · exact .inl (stays b o m e)
      · by_cases m : b ∈ T
        · obtain ⟨more, z⟩ := grown b m
          exact ⟨_, z⟩
        · exact ⟨o, stays b o m e⟩
/-- what is to be known of a law's promise at its entry -/
def LawG (l : PySem.W.OpenLaw) (w : World) (K : PySem.W.Frag) (k n : Nat) (x : Str) (mg : Str → Option Value) (fa : Addr) (h : Heap) : Prop :=
  ∃ (fd : FuncData) (cs : List (Addr × Addr)) (sp : Sp), (∀ p ∈ cs, h.get? p.2 = some noTable) ∧ (∀ p ∈ cs, K.lookup p.2 = none) ∧ (∀ p ∈ cs, PySem.W.CodeHd h p.1 p.2) ∧
    (∀ (s : Shared) (u : Value), BindsTo s fd ⟨[u], []⟩ [(x, u)]) ∧
    (∀ (H : Hp) (a : Addr) (ns : List Int), ns.length ≤ n → (∀ p ∈ cs, H p.2 = some (.tbl #[])) → SqL K H a (ns.map V.int) → sp [.ref a] H (fun v _ => v = .bl true) fun _ _ _ => False) ∧
    ∀ base : Heap, K.In base → base.Ns mainGlobals mg → (∀ p ∈ cs, GxR.TabB base mg p.1 p.2) → FnG l.prog w K mg base k fa fd [x] sp
theorem walk_G {l : PySem.W.OpenLaw} {most lvl : Nat} {view : Program} {loose : List Str} {XP : (Str → Option Value) → Heap → Prop} {YP : World → Heap → Prop}
    {d : DefRec} {K : Params → PySem.W.Frag} {arg : Str}
    (h1 : l.most = some most) (h2 : most ≤ sizeLine) (h3 : d.params.defaults = []) (room : Room lvl callerA) (kIn : ∀ (w : World) (h : Heap), YP w h → (K w.params).In h)
    (F : ∀ (w : World) (mg : Str → Option Value) (fa : Addr) (h : Heap), YP w h → (K w.params).In h → h.Ns mainGlobals mg → mg d.name = some (.ref fa) →
      (∀ nm f, ((recsOf view).any fun r => r.name == nm) = true → mg nm = some (.ref f) → LamX.OwnTab (K w.params) f h) → LawG l w (K w.params) lvl most arg mg fa h) :
    PySem.W.WalkO view loose XP YP l.row.toRowW d [] (fun f vs => PySem.call f vs) := by
  refine Att.attach_callB h1 h3 fun w sa sb mg mb fa oL pm cd doc a vals nums gr yp hob hdata hrec hfa hscr hint hlen hbit hgen => ?_
  have inK := kIn w _ yp
  have tabs : ∀ nm f, ((recsOf view).any fun r => r.name == nm) = true → mg nm = some (.ref f) → LamX.OwnTab (K w.params) f sb.heap := fun nm f there hf cc TT ob ff ev di vv ss g1 g2 g3 g4 g5 => by
    obtain ⟨r, mem, same⟩ := List.any_eq_true.mp there
    have nmr : r.name = nm := beq_iff_eq.mp same
    obtain ⟨fb, ob', ff', cc', TT', i1, i2, i3, i4, _, i6⟩ := gr.T.tab r mem
    rw [nmr, hf] at i1
    cases i1
    rw [inK _ _ g1] at i2
    cases i2
    rw [g2] at i3
    cases i3
    rw [g3] at i4
    cases i4
    obtain ⟨⟨oc, vc, j1, _, j3, j4⟩, empty⟩ := i6
    rw [inK _ _ g4] at j1
    cases j1
    cases j3
    rw [g5] at j4
    cases j4
    exact empty
  obtain ⟨fd, cs, sp, t1, t2, t3, bind, ask, good⟩ := F w mg fa _ yp inK gr.T.g hfa tabs
  exact law_callG inK gr.T.g gr.T.b gr.T.builtins gr.T.nolimit hgen t1 t2 t3 gr.T.bmain hscr hint (Nat.le_trans hlen h2) room good bind
    (fun H q1 q2 => ask H a nums hlen q1 q2)
end LL
namespace LL
open PySem PySem.Spec PyProof.Rows L2
/-! ### all(elt for x in xs), xs a list, where elt may call defs -/
/-- where the element runs: a frame of its own over the def's -/
def gx (X : Cx) (cenv : Env) (N : List Str) (s : Shared) (H : Hp) (it : Addr) (A : Around) : Cx where
  prog := X.prog
  w := X.w
  K := X.K
  mg := X.mg
  base := X.base
  A := A
  N := N
  s_0 := s
  H_0 := H
  env := cenv
  outer := X.stack
  stack := cenv :: X.stack
  ex := [it]
  fn := fun _ => false
  calm := true
  pn := []
  xe := fun _ _ => False
theorem over_gen {A : Around} {elt : Expr} {gs : List Comprehension} {sc : Scope} {pos : Pos} {it acc : Value} {cenv : Env} :
    A.over (.compLoop (.GeneratorExp elt gs sc pos) 0 it acc cenv) [] = A.deeper cenv := by
  first
    | rfl
    | (obtain ⟨hd, d, fr, gs, u⟩ := A
       simp [Around.over, Around.deeper, marksOver, frameCount, unitsOf, envsOf, guardsOf, pushEnvs, pushGuards, Code.envs, Code.env?, Code.isFrame, Code.guards, Code.isGuard, Code.weight, Code.frames, Code.isCreation, Code.isCaller, Code.cUnits])
/-- same heap, other generators' states -/
theorem inv_gens {X : Cx} {pins : List (Addr × Obj)} {σ : L2.St} {H : Hp} {s s' : Shared} (I : Inv X pins σ H s) (hh : s'.heap = s.heap) (ho : s'.os = s.os) (hb : AllBare s'.gens) : Inv X pins σ H s' := by
  obtain ⟨h', g', d', t', o'⟩ := s'
  have e1 : h' = s.heap := hh
  have e2 : o' = s.os := ho
  subst e1
  subst e2
  exact I.step (g' := g') (d' := d') (t' := t') (ch := []) (fun _ z => nomatch z) (fun b o _ _ _ e _ => e) (fun b o _ _ _ e _ => ⟨o.slots, e⟩) (fun _ _ _ _ n => n)
    (fun b o _ e => ⟨o, e⟩) (fun _ _ e => e) (fun _ _ _ e => e) (fun b ps e => ⟨#[], by rw [e]; simp⟩) (fun _ z => z) I.hok hb
theorem clo_back {cells : List (Str × Addr)} {names : List (Str × NameKind)} (h : ∀ y ∈ names, y.2 = .free → ∃ c, cells.lookup y.1 = some c) {y : Str} {c : Addr}
    (e : (cloFrom cells names []).lookup y = some c) : cells.lookup y = some c := by
  rcases cloFrom_mem (PySem.mem_of_lookup e) with m | ⟨m, rfl⟩
  · cases m
  · obtain ⟨c', e'⟩ := h _ m rfl
    rw [e']
    rfl
section
variable {X : Cx} {pins : List (Addr × Obj)} {σ : L2.St} {H : Hp} {s : Shared}
/-- the start: in the state s the iterator is made, the code is there; then the frame and the generator are laid -/
theorem gen_start {scope : Scope} {x : Str} {cs : List (Str × Nat)} {cv : Value} {ia tk : Nat} {A : Around} {h1 h2 : Heap} {g2 : Array GenState} {m0 : Str → Option Value}
    (I : Inv X pins σ H s) (S : GxR.GenS X.env scope x)
    (caps : ∀ p ∈ cs, X.N[p.2]? = some p.1 ∧ X.env.scope.names.lookup p.1 = some .cell ∧ scope.names.lookup p.1 = some .free ∧
      ∀ q, X.env.cells.lookup p.1 = some q → (cloFrom X.env.cells scope.names []).lookup p.1 = some q)
    (hd : A.handled = none) (fr : A.frames = some (genEnv scope (cloFrom X.env.cells scope.names []) s.heap.objs.size cv builtinsNs X.env :: X.stack))
    (i1 : ia < s.heap.objs.size) (i2 : ∀ y c, X.env.cells.lookup y = some c → c ≠ ia) (i3 : ∀ b o, X.base.get? b = some o → b ≠ ia) (i4 : ia ∉ frs X.stack)
    (ns : h1.Ns s.heap.objs.size m0) (sb : Heap.SameBut s.heap.objs.size (s.heap.push { cls := .type "frame", data := .dict #[] }) h1)
    (keep : ∀ b o, h1.get? b = some o → h2.get? b = some o) (bare : AllBare g2) :
    Inv (gx X (genEnv scope (cloFrom X.env.cells scope.names []) s.heap.objs.size cv builtinsNs X.env) (x :: cs.map (·.1)) s H ia A) [] (none :: cs.map (fun p => σ.getD p.2 none)) H
      { s with heap := h2, gens := g2, toks := tk } := by
  have kp : ∀ b o, s.heap.get? b = some o → h2.get? b = some o := fun b o e =>
    keep b o (sb.extBut b o (Nat.ne_of_lt (Heap.lt_size e)) (Heap.get?_push_of_some _ e))
  have lt : ∀ y c, X.env.cells.lookup y = some c → c < s.heap.objs.size := fun y c e => by
    obtain ⟨v, z⟩ := I.cell y c e
    exact z.lt
  have back : ∀ {y : Str} {c : Addr}, (cloFrom X.env.cells scope.names []).lookup y = some c → X.env.cells.lookup y = some c := fun e => clo_back S.free e
  have okG : (gx X (genEnv scope (cloFrom X.env.cells scope.names []) s.heap.objs.size cv builtinsNs X.env) (x :: cs.map (·.1)) s H ia A).Ok := by
    refine ⟨I.ok.mod, S.kind, I.ok.glob, rfl, Nat.le_refl _, fun y z c e1 e2 => I.ok.inj y z c (back e1) (back e2), fun y hy => ?_, (fun y c z _ => absurd z (by simp [gx])), fun _ => hd, fr, .inr ⟨rfl, rfl⟩, fun b hb => ?_,
      I.bs, Nat.le_trans I.ok.bsz I.sz, fun b o e hb => ?_, fun b hb z => ?_, I.stack, I.stkFree⟩
    · have hk : scope.names.lookup y = some .free := by
        rcases hy with q | q
        · exact absurd rfl (S.cell _ (PySem.mem_of_lookup (show scope.names.lookup y = some .cell from q)))
        · exact q
      have hm : (y, NameKind.free) ∈ scope.names := PySem.mem_of_lookup hk
      obtain ⟨c, hc⟩ := mem_lookup (cloFrom_has (cells := X.env.cells) (acc := []) hm)
      exact ⟨c, hc⟩
    · have e : b = ia := by simpa [gx] using hb
      subst e
      exact ⟨Nat.ne_of_lt i1, fun y c e => i2 y c (back e)⟩
    · have e' : b = ia := by simpa [gx] using hb
      exact i3 b o e e'
    · have e : b = ia := by simpa [gx] using hb
      subst e
      exact i4 z
  refine ⟨okG, rfl, bare, Un.kept kp, ⟨m0, ?_, fun i y v e1 e2 e3 => ?_⟩, fun y c e => ?_, I.hok.fresh (Nat.le_refl _), fun y c e => I.freeC y c (back e), (fun p hp => absurd (show p ∈ ([] : List (Addr × Obj)) from hp) (by simp)), I.hok.kept kp, by simp [gx]⟩
  · obtain ⟨o, es, ep, e, r⟩ := ns
    exact ⟨o, es, ep, keep _ _ e, r⟩
  · cases i with
    | zero =>
      have e2 : (some (none : Option V)) = some (some v) := e2
      cases e2
    | succ j =>
      have e1 : (cs.map (·.1))[j]? = some y := e1
      have e2 : (cs.map (fun p => σ.getD p.2 none))[j]? = some (some v) := e2
      rw [List.getElem?_map] at e1 e2
      cases hp : cs[j]? with
      | none => rw [hp] at e1; cases e1
      | some p =>
        rw [hp] at e1 e2
        obtain rfl : p.1 = y := Option.some.inj e1
        have e2 : σ.getD p.2 none = some v := Option.some.inj e2
        obtain ⟨c1, c2, c3, c4⟩ := caps p (List.mem_of_getElem? hp)
        have e4 : σ[p.2]? = some (some v) := by
          rw [List.getD_eq_getElem?_getD] at e2
          cases q : σ[p.2]? with
          | none => rw [q] at e2; cases e2
          | some z => rw [q] at e2; exact congrArg some e2
        obtain ⟨m, _, look⟩ := I.loc
        obtain ⟨u, ru, lu⟩ := look p.2 p.1 v c1 e4 (.inr (.inl c2))
        refine ⟨u, ru, ?_⟩
        rcases lu with ⟨k1, _⟩ | ⟨_, q, q1, oq, q2, q3⟩
        · have k2 : X.env.scope.names.lookup p.1 = some .local := k1
          rw [c2] at k2
          cases k2
        · exact .inr ⟨.inr c3, q, c4 q q1, oq, kp _ _ q2, q3⟩
  · obtain ⟨v, o, e1, e2⟩ := I.cell y c (back e)
    exact ⟨v, o, kp _ _ e1, e2⟩
end
/-- a list or a tuple -/
def SqA (tp : Bool) (K : PySem.W.Frag) (H : Hp) (a : Addr) (xs : List V) : Prop := if tp = true then SqT K H a xs else SqL K H a xs
def itN (tp : Bool) : String := if tp = true then "tuple_iterator" else "list_iterator"
def ItO (tp : Bool) (yl : Addr) (i : Nat) (o : Obj) : Prop := o.cls = .type (itN tp) ∧ o.data = .fields #[.ref yl, .int i 0]
/-- an iterator's turn -/
theorem next_turn {tp : Bool} {X : Cx} {pins : List (Addr × Obj)} {σ : L2.St} {H : Hp} {s : Shared} {yl ia : Addr} {xs : List V} {i : Nat} {o : Obj} {v : V} {A : Around} {Q : Option Value → Shared → Prop} {E : Value → Shared → Prop}
    (I : Inv X pins σ H s) (hd : A.handled = none) (sq : SqA tp X.K H yl xs) (e : s.heap.get? ia = some o) (it : ItO tp yl i o) (hv : xs[i]? = some v)
    (h : ∀ u h1 tk o1, RelV v u → h1.get? ia = some o1 → ItO tp yl (i + 1) o1 → (∀ b o, b ≠ ia → s.heap.get? b = some o → h1.get? b = some o) → Q (some u) { s with heap := h1, toks := tk }) :
    wpAny (model X.prog X.w) A (pyNext (.ref ia)) Q E s := by
  have hlt : i < xs.length := (List.getElem?_eq_some_iff.mp hv).1
  obtain ⟨c, d⟩ := it
  cases tp with
  | false =>
    obtain ⟨its, rel, pl, _⟩ := I.list (show SqL X.K H yl xs from sq)
    have hlen : its.toArray.size = xs.length := by rw [List.size_toArray, ← rel.length]
    have ne : yl ≠ ia := fun z => by
      obtain ⟨o', e', c', _⟩ := pl.isList
      rw [z, e] at e'
      cases e'
      rw [c] at c'
      injection c' with c'
      exact absurd c' (by decide)
    refine (Walks.list hd ia yl ne its.toArray).item i s _ _ (by rw [hlen]; exact hlt) ⟨⟨o, e, c, d⟩, pl.isList⟩ fun u h1 tk hu st keep => ?_
    obtain ⟨o1, e1, r1⟩ := st.1
    obtain ⟨u', hu', r'⟩ := rel.get hv
    have hu2 : its.toArray[i]? = some u := hu
    rw [show its.toArray[i]? = some u' by simpa using hu'] at hu2
    cases hu2
    exact h _ h1 tk o1 r' e1 r1 fun b o hb q => keep b o (by simpa using hb) q
  | true =>
    obtain ⟨its, rel, pl, _⟩ := I.tuple (show SqT X.K H yl xs from sq)
    have hlen : its.toArray.size = xs.length := by rw [List.size_toArray, ← rel.length]
    have ne : yl ≠ ia := fun z => by
      obtain ⟨o', e', c', _⟩ := id pl
      rw [z, e] at e'
      cases e'
      rw [c] at c'
      injection c' with c'
      exact absurd c' (by decide)
    refine (Walks.tuple hd ia yl ne its.toArray).item i s _ _ (by rw [hlen]; exact hlt) ⟨⟨o, e, c, d⟩, pl⟩ fun u h1 tk hu st keep => ?_
    obtain ⟨o1, e1, r1⟩ := st.1
    obtain ⟨u', hu', r'⟩ := rel.get hv
    have hu2 : its.toArray[i]? = some u := hu
    rw [show its.toArray[i]? = some u' by simpa using hu'] at hu2
    cases hu2
    exact h _ h1 tk o1 r' e1 r1 fun b o hb q => keep b o (by simpa using hb) q
theorem next_end {tp : Bool} {X : Cx} {pins : List (Addr × Obj)} {σ : L2.St} {H : Hp} {s : Shared} {yl ia : Addr} {xs : List V} {o : Obj} {A : Around} {Q : Option Value → Shared → Prop} {E : Value → Shared → Prop}
    (I : Inv X pins σ H s) (hd : A.handled = none) (sq : SqA tp X.K H yl xs) (e : s.heap.get? ia = some o) (it : ItO tp yl xs.length o)
    (h : ∀ h1 tk, (∀ b o, b ≠ ia → s.heap.get? b = some o → h1.get? b = some o) → Q none { s with heap := h1, toks := tk }) :
    wpAny (model X.prog X.w) A (pyNext (.ref ia)) Q E s := by
  obtain ⟨c, d⟩ := it
  cases tp with
  | false =>
    obtain ⟨its, rel, pl, _⟩ := I.list (show SqL X.K H yl xs from sq)
    have hlen : its.toArray.size = xs.length := by rw [List.size_toArray, ← rel.length]
    have ne : yl ≠ ia := fun z => by
      obtain ⟨o', e', c', _⟩ := pl.isList
      rw [z, e] at e'
      cases e'
      rw [c] at c'
      injection c' with c'
      exact absurd c' (by decide)
    exact (Walks.list hd ia yl ne its.toArray).done s _ _ ⟨by rw [hlen]; exact ⟨o, e, c, d⟩, pl.isList⟩ fun h1 tk keep => h h1 tk fun b o hb q => keep b o (by simpa using hb) q
  | true =>
    obtain ⟨its, rel, pl, _⟩ := I.tuple (show SqT X.K H yl xs from sq)
    have hlen : its.toArray.size = xs.length := by rw [List.size_toArray, ← rel.length]
    have ne : yl ≠ ia := fun z => by
      obtain ⟨o', e', c', _⟩ := id pl
      rw [z, e] at e'
      cases e'
      rw [c] at c'
      injection c' with c'
      exact absurd c' (by decide)
    exact (Walks.tuple hd ia yl ne its.toArray).done s _ _ ⟨by rw [hlen]; exact ⟨o, e, c, d⟩, pl⟩ fun h1 tk keep => h h1 tk fun b o hb q => keep b o (by simpa using hb) q

/-- between two turns: i things were asked, each of them is so -/
def GS (X : Cx) (ga : Addr) (go : Obj) (ia : Addr) (It : Nat → Obj → Prop) (σ0 : L2.St) (g : Nat) (Pv : Nat → Hp → Prop) (i : Nat) (s : Shared) : Prop :=
  ∃ H, Inv X [(ga, go)] σ0 H s ∧ H ia = none ∧ (∃ o, s.heap.get? ia = some o ∧ It i o) ∧ g < s.gens.size ∧ Pv i H
/-- what is told when one thing was asked -/
def GY (X : Cx) (ga : Addr) (go : Obj) (ia : Addr) (It : Nat → Obj → Prop) (σ0 : L2.St) (g : Nat) (Pv : Nat → Hp → Prop) (Qf : Hp → Prop) (n : Nat) : Protocol := fun m _ v s kap =>
  g < s.gens.size ∧ ∃ b : Bool, v = .bool b ∧ (if b = true then ∃ i, i + m = n ∧ GS X ga go ia It σ0 g Pv i s ∧
      ∀ s'' : Shared, s''.heap = s.heap → s''.os = s.os → AllBare s''.gens → g < s''.gens.size → kap (.send .none) s''
    else ∃ H, Inv X [(ga, go)] σ0 H s ∧ Qf H)
def GR (X : Cx) (ga : Addr) (go : Obj) (σ0 : L2.St) (g : Nat) (Pv : Nat → Hp → Prop) (n : Nat) (m : Nat) (s : Shared) : Prop :=
  m = 0 ∧ ∃ H, Inv X [(ga, go)] σ0 H s ∧ g < s.gens.size ∧ Pv n H
section
variable {tp : Bool} {X : Cx} {ga ia yl : Addr} {go : Obj} {σ0 : L2.St} {g : Nat} {Pv : Nat → Hp → Prop} {Qf : Hp → Prop} {xs : List V} {te : TE}
theorem GS.gens {It : Nat → Obj → Prop} {i : Nat} {s s' : Shared} (h : GS X ga go ia It σ0 g Pv i s) (hh : s'.heap = s.heap) (ho : s'.os = s.os) (hb : AllBare s'.gens) (hg : g < s'.gens.size) : GS X ga go ia It σ0 g Pv i s' := by
  obtain ⟨H, I, n, it, _, p⟩ := h
  exact ⟨H, inv_gens I hh ho hb, n, by rw [hh]; exact it, hg, p⟩
theorem pinNe {H : Hp} {s : Shared} {i : Nat} {o : Obj} (I : Inv X [(ga, go)] σ0 H s) (e' : s.heap.get? ia = some o) (it : ItO tp yl i o) (isGen : go.cls = .type "generator") (hpn : X.pn = []) :
    ∀ q ∈ X.pn ++ [(ga, go)], q.1 ≠ ia := by
  intro q hq
  rw [hpn, List.nil_append] at hq
  obtain rfl := List.mem_singleton.mp hq
  intro z
  obtain ⟨e, _⟩ := I.pin (ga, go) (List.mem_append_right _ (List.mem_singleton.mpr rfl))
  obtain ⟨c, _⟩ := it
  have z : ga = ia := z
  have e : s.heap.get? ga = some go := e
  rw [z, e'] at e
  cases e
  rw [isGen] at c
  injection c with c
  cases tp <;> exact absurd c (by decide)
theorem gl_loop {B : Around} {elt iter : Expr} {x : Str} {px pos : Pos} {scope : Scope} (hA : X.A = B.deeper X.env) (hd : B.handled = none)
    (isGen : go.cls = .type "generator") (hpn : X.pn = []) (hia : ia ∈ X.ex) (hN : X.N.Nodup) (h0 : X.N[0]? = some x) (hl : X.env.scope.names.lookup x = some .local) (hco : X.env.scope.isCoroutine = false)
    (hσ : σ0[0]? = some none) (hel : PE X elt te) (xe : ∀ e s, X.xe e s → False)
    (list_ : ∀ i H, Pv i H → SqA tp X.K H yl xs) (step : ∀ i v H, xs[i]? = some v → Pv i H → te (σ0.set 0 (some v)) H fun y H' => ∃ b, y = .bl b ∧ if b = true then Pv (i + 1) H' else Qf H') :
    ∀ (r i : Nat) (s0 s : Shared), xs.length - i = r → i ≤ xs.length → GS X ga go ia (ItO tp yl) σ0 g Pv i s →
      Seg (model X.prog X.w) B (fun m _ q s1 => q = .ok .next ∧ GR X ga go σ0 g Pv xs.length m s1) (GY X ga go ia (ItO tp yl) σ0 g Pv Qf xs.length) r s0
        (.compLoop (.GeneratorExp elt [⟨.Name x px, iter, [], 0⟩] scope pos) 0 (.ref ia) .none X.env)
        ((model X.prog X.w).den (.compLoop (.GeneratorExp elt [⟨.Name x px, iter, [], 0⟩] scope pos) 0 (.ref ia) .none X.env)) [] s := by
  have over : B.over (.compLoop (.GeneratorExp elt [⟨.Name x px, iter, [], 0⟩] scope pos) 0 (.ref ia) .none X.env) [] = X.A := by rw [over_gen, hA]
  have hd' : X.A.handled = none := by rw [hA]; exact hd
  intro r
  induction r with
  | zero =>
    intro i s0 s hr hi ⟨H, I, na, ⟨oi, ei, it⟩, hg, p⟩
    have hin : i = xs.length := by omega
    subst hin
    obtain ⟨exL, exC⟩ := I.ok.exf ia hia
    show Seg _ B _ _ _ s0 _ ((compTurn (.GeneratorExp elt [⟨.Name x px, iter, [], 0⟩] scope pos) 0 (.ref ia) .none X.env).onRaise (leaving X.env)) [] s
    rw [compTurn_gen, Sem.onRaise_eq_wrap]
    refine seg_bind_wrap (wpAny_standAt ?_)
    refine seg_bind_wrap ?_
    rw [over]
    refine next_end I hd' (list_ _ _ p) ei it fun h' tk keep => ?_
    have I2 := I.turned (t' := tk) keep na exL (.inl hia) exC (pinNe I ei it isGen hpn)
    exact seg_end (.ok .next) ⟨rfl, by omega, H, I2, hg, p⟩
  | succ r ih =>
    intro i s0 s hr hi ⟨H, I, na, ⟨oj, ej, it⟩, hg, p⟩
    have hlt : i < xs.length := by omega
    obtain ⟨exL, exC⟩ := I.ok.exf ia hia
    have exF := I.ok.exfs ia hia
    show Seg _ B _ _ _ s0 _ ((compTurn (.GeneratorExp elt [⟨.Name x px, iter, [], 0⟩] scope pos) 0 (.ref ia) .none X.env).onRaise (leaving X.env)) [] s
    rw [compTurn_gen, Sem.onRaise_eq_wrap]
    refine seg_bind_wrap (wpAny_standAt ?_)
    obtain ⟨v, hv⟩ : ∃ v, xs[i]? = some v := ⟨xs[i], List.getElem?_eq_getElem hlt⟩
    refine seg_bind_wrap ?_
    rw [over]
    refine next_turn I hd' (list_ _ _ p) ej it hv fun u h1 tk oi ru e1 itn keep => ?_
    have I1 := I.turned (t' := tk) keep na exL (.inl hia) exC (pinNe I ej it isGen hpn)
    have I1p : Inv X [(ga, go), (ia, oi)] σ0 H { s with heap := h1, toks := tk } := I1.pins_of fun q hq => by
      rcases List.mem_cons.mp hq with rfl | hq
      · exact I1.pin (ga, go) (List.mem_append_right _ (List.mem_singleton.mpr rfl))
      · obtain rfl := List.mem_singleton.mp hq
        exact ⟨e1, na, exL, exF, fun v z => by
          have z : oi.data = .cell v := z
          rw [itn.2] at z
          cases z⟩
    refine seg_bind_wrap (wpAny_of_eq (rfl : letOwnedTupleGo (.Name x px) (.ref ia) u = pure ()) ?_)
    refine seg_bind_wrap ?_
    rw [over]
    refine GenW.wpAny_gsz (n := g + 1) hg ?_
    refine wpAny_assign_Name (store_ok I1p hN h0 (.inl hl) ru (fun s2 I2 hg2 => ?_) (.inr hl))
    simp only [List.forIn_nil]
    refine seg_bind_wrap (wpAny_pure ?_)
    simp only [if_true]
    have hy : ∀ v, yieldOut X.env v = yieldValue v := fun v => by simp only [yieldOut, hco, Bool.false_eq_true, if_false]
    simp only [hy]
    rw [Sem.bind_eq_wrap', Sem.bind_eq_wrap', Sem.wrap_wrap, Sem.wrap_wrap]
    refine seg_wrap ?_
    rw [over]
    refine GenW.wpAny_gsz (n := g + 1) hg2 ?_
    refine wpAny_mono (hel.run _ s2 _ H _ I2 (step i v H hv p)) (fun y s3 got hg3 => ?_) (fun e s3 z _ => (xe e s3 z).elim)
    obtain ⟨yv, H3, I3, ry, b, rfl, q⟩ := got
    obtain rfl : y = Value.bool b := ry
    have I4 : Inv X [(ga, go), (ia, oi)] σ0 H3 s3 := I3.weak (by rw [List.length_set]) fun j z hz => by
      cases j with
      | zero =>
        rw [hσ] at hz
        cases hz
      | succ j =>
        rw [List.getElem?_set_ne (by omega)]
        exact hz
    obtain ⟨p1, p2, _⟩ := I4.pin (ia, oi) (List.mem_append_right _ (List.mem_cons_of_mem _ List.mem_cons_self))
    have I5 : Inv X [(ga, go)] σ0 H3 s3 := I4.pins_of fun q hq => by
      obtain rfl := List.mem_singleton.mp hq
      exact I4.pin (ga, go) (List.mem_append_right _ List.mem_cons_self)
    refine seg_at (seg_yield rfl rfl rfl ⟨hg3, b, rfl, ?_⟩)
    cases b with
    | false =>
      rw [if_neg Bool.false_ne_true] at q ⊢
      exact ⟨H3, I5, q⟩
    | true =>
      rw [if_pos rfl] at q ⊢
      have gs : GS X ga go ia (ItO tp yl) σ0 g Pv (i + 1) s3 := ⟨H3, I5, p2, ⟨oi, p1, itn⟩, hg3, q⟩
      exact ⟨i + 1, by omega, gs, fun s4 z1 z2 z3 z4 => seg_again rfl (ih (i + 1) s4 s4 (by omega) (by omega) (gs.gens z1 z2 z3 z4))⟩
theorem bare_set {s : Shared} {g : Nat} {y : GenState} (h : AllBare s.gens) (hy : y.bare = true) : AllBare (s.setGen g y).gens := by
  intro z hz
  have hz : z ∈ s.gens.setIfInBounds g y := hz
  rcases Array.mem_or_eq_of_mem_setIfInBounds hz with m | rfl
  · exact h z m
  · exact hy
theorem size_set {s : Shared} {g : Nat} {y : GenState} : (s.setGen g y).gens.size = s.gens.size := by simp [Shared.setGen]
/-- all over such a generator -/
theorem gl_all {A B : Around} {Rr : Result → Shared → Prop} (hd : A.handled = none) (hB : B = A.in1.in1) (depth : A.depth < recursionLimit) (isG : ∀ h : Heap, h.get? ga = some go → h.IsGen ga g)
    (fin : ∀ b s' H, Inv X [(ga, go)] σ0 H s' → (if b = true then Pv xs.length H else Qf H) → Rr (.ok (.ret (.bool b))) s') :
    ∀ (m i : Nat) (s : Shared) (gs : GenState), i + m = xs.length → GS X ga go ia (ItO tp yl) σ0 g Pv i s → s.gens[g]? = some gs →
      (∀ s'' : Shared, s''.heap = s.heap → s''.os = s.os → AllBare s''.gens → g < s''.gens.size →
        gs.Goes (model X.prog X.w) B (fun m _ q s1 => q = .ok .next ∧ GR X ga go σ0 g Pv xs.length m s1) (GY X ga go ia (ItO tp yl) σ0 g Pv Qf xs.length) m (.send .none) s'') →
      codeAny (model X.prog X.w) A (.builtin "all.loop" ⟨[.ref ga], []⟩) Rr s := by
  intro m
  induction m with
  | zero =>
    intro i s gs him st hgs goes
    obtain ⟨H, I, na, it, hg, p⟩ := id st
    obtain ⟨pg, _⟩ := I.pin (ga, go) (List.mem_append_right _ (List.mem_singleton.mpr rfl))
    refine codeAny_builtin F.entry_all_loop ?_
    rw [Around.under_plainId F.plain_all_loop _]
    show wpAny _ A.in1 (pyNext (.ref ga) >>= _) _ _ s
    refine wpAny_bind ?_
    subst hB
    refine wpAny_pyNext_genexpQ (P := fun m _ s1 => GR X ga go σ0 g Pv xs.length m s1) hd I.nolimit depth (isG _ pg) hgs (goes _ rfl rfl (bare_set I.bare rfl) (by rw [size_set]; exact hg)) (fun v s1 gs' bare' got => ?_) (fun s1 got h' keep => ?_)
    · obtain ⟨hg1, b, rfl, q⟩ := got
      cases b with
      | false =>
        rw [if_neg Bool.false_ne_true] at q
        obtain ⟨H1, I1, q⟩ := q
        refine wpAny_bind (wpAny_holding (wpAny_truthy_bool ?_))
        refine wpAny_bind (wpAny_letGo ?_)
        simp only [Bool.false_eq_true, if_false]
        refine wpAny_bind (wpAny_rule (wpAny_pure ?_))
        exact fin false _ H1 (inv_gens I1 rfl rfl (bare_set I1.bare bare')) (by rw [if_neg Bool.false_ne_true]; exact q)
      | true =>
        rw [if_pos rfl] at q
        obtain ⟨j, hj, ⟨_, I1, _⟩, kap⟩ := q
        exact (kap s1 rfl rfl I1.bare hg1).elim
    · obtain ⟨_, H1, I1, hg1, q⟩ := got
      refine wpAny_bind (wpAny_rule (wpAny_pure ?_))
      have I2 := I1.kept (t' := s1.toks) keep
      exact fin true _ H1 (inv_gens I2 rfl rfl (bare_set I1.bare rfl)) (by rw [if_pos rfl]; exact q)
  | succ m ih =>
    intro i s gs him st hgs goes
    obtain ⟨H, I, na, it, hg, p⟩ := id st
    obtain ⟨pg, _⟩ := I.pin (ga, go) (List.mem_append_right _ (List.mem_singleton.mpr rfl))
    refine codeAny_builtin F.entry_all_loop ?_
    rw [Around.under_plainId F.plain_all_loop _]
    show wpAny _ A.in1 (pyNext (.ref ga) >>= _) _ _ s
    refine wpAny_bind ?_
    subst hB
    refine wpAny_pyNext_genexpQ (P := fun m _ s1 => GR X ga go σ0 g Pv xs.length m s1) hd I.nolimit depth (isG _ pg) hgs (goes _ rfl rfl (bare_set I.bare rfl) (by rw [size_set]; exact hg)) (fun v s1 gs' bare' got => ?_) (fun s1 got h' keep => ?_)
    · obtain ⟨hg1, b, rfl, q⟩ := got
      refine wpAny_bind (wpAny_holding (wpAny_truthy_bool ?_))
      refine wpAny_bind (wpAny_letGo ?_)
      cases b with
      | false =>
        rw [if_neg Bool.false_ne_true] at q
        obtain ⟨H1, I1, q⟩ := q
        simp only [Bool.false_eq_true, if_false]
        refine wpAny_bind (wpAny_rule (wpAny_pure ?_))
        exact fin false _ H1 (inv_gens I1 rfl rfl (bare_set I1.bare bare')) (by rw [if_neg Bool.false_ne_true]; exact q)
      | true =>
        rw [if_pos rfl] at q
        obtain ⟨j, hj, st1, kap⟩ := q
        simp only [if_true]
        have bare1 : AllBare s1.gens := by
          obtain ⟨_, I1, _⟩ := st1
          exact I1.bare
        have jm : j + m = xs.length := by omega
        refine wpAny_pure ⟨plainId_quiet F.plain_all_loop _, ih j _ gs' jm (st1.gens rfl rfl (bare_set bare1 bare') (by rw [size_set]; exact hg1)) (by simp [Shared.setGen, hg1]) fun s2 z1 z2 z3 z4 => ?_⟩
        exact kap s2 z1 z2 z3 z4
    · obtain ⟨z, _⟩ := got
      exact absurd z (Nat.succ_ne_zero m)
theorem gl_start {B : Around} {elt iter : Expr} {x : Str} {px pos : Pos} {scope : Scope} {n : Nat} {s0 s : Shared} {R : GenEnd} {Y : Protocol} (hd : B.handled = none) {i : Nat} (it : ∃ o, s.heap.get? ia = some o ∧ ItO tp yl i o)
    (loop : Seg (model X.prog X.w) B R Y n s0 (.compLoop (.GeneratorExp elt [⟨.Name x px, iter, [], 0⟩] scope pos) 0 (.ref ia) .none X.env)
        ((model X.prog X.w).den (.compLoop (.GeneratorExp elt [⟨.Name x px, iter, [], 0⟩] scope pos) 0 (.ref ia) .none X.env)) [] s) :
    Seg (model X.prog X.w) B R Y n s0 (.compStart (.GeneratorExp elt [⟨.Name x px, iter, [], 0⟩] scope pos) 0 (.ref ia) .none X.env)
      ((model X.prog X.w).den (.compStart (.GeneratorExp elt [⟨.Name x px, iter, [], 0⟩] scope pos) 0 (.ref ia) .none X.env)) [] s := by
  have self : ∀ (A : Around) (Q : Value → Shared → Prop) (E : Value → Shared → Prop), Q (.ref ia) s → wpAny (model X.prog X.w) A (pyIter (.ref ia)) Q E s := fun A Q E h => by
    obtain ⟨o, e, c, d⟩ := it
    cases tp with
    | false => exact wpAny_pyIter_listiter ⟨o, e, c, d⟩ h
    | true => exact wpAny_pyIter_tupleiter ⟨o, e, c, d⟩ h
  show Seg _ B _ _ _ s0 _ ((compStart (.GeneratorExp elt [⟨.Name x px, iter, [], 0⟩] scope pos) 0 (.ref ia) .none X.env).onRaise (leaving X.env)) [] s
  unfold compStart
  rw [Sem.onRaise_eq_wrap]
  show Seg _ B _ _ _ s0 _ ((ask >>= _).wrap _ _ _ _) [] s
  refine seg_bind_wrap (wpAny_askSetting ?_)
  split
  · exact seg_again rfl loop
  · first
      | exact seg_bind_wrap (wpAny_rule (seg_bind_wrap (wpAny_standAt (seg_bind_wrap (self _ _ _ (seg_again rfl loop))))))
      | (refine seg_bind_wrap (wpAny_rule ?_)
         exact seg_bind_wrap (wpAny_standAt (seg_bind_wrap (self _ _ _ (seg_again rfl loop)))))
end
/-- all(elt for x in e), e a list or a tuple -/
def tAllL (tp : Bool) (K : PySem.W.Frag) (P : Addr) (cs : List (Str × Nat)) (tl te : TE) : TE := fun σ H Q => tl σ H fun v H1 => ∃ (a : Addr) (xs : List V), v = .ref a ∧ SqA tp K H1 a xs ∧ GxR.TabG H1 P ∧
  ∃ Pv : Nat → Hp → Prop, (∀ H2, GxR.Tabbed P H1 H2 → Pv 0 H2) ∧ (∀ i H, Pv i H → SqA tp K H a xs) ∧
    (∀ i v H, xs[i]? = some v → Pv i H → te (some v :: cs.map (fun p => σ.getD p.2 none)) H fun y H' => ∃ b, y = .bl b ∧ if b = true then Pv (i + 1) H' else Q (.bl false) H') ∧
    ∀ H, Pv xs.length H → Q (.bl true) H
theorem iter_of {tp : Bool} {X : Cx} {pins : List (Addr × Obj)} {σ : L2.St} {H : Hp} {s : Shared} {a : Addr} {xs : List V} {A : Around} {Q : Value → Shared → Prop} {E : Value → Shared → Prop}
    (I : Inv X pins σ H s) (sq : SqA tp X.K H a xs) (h : Q (.ref s.heap.objs.size) { s with heap := s.heap.push { cls := .type (itN tp), data := .fields #[.ref a, .int 0 0] } }) :
    wpAny (model X.prog X.w) A (pyIter (.ref a)) Q E s := by
  cases tp with
  | false =>
    obtain ⟨its, _, pl, _⟩ := I.list (show SqL X.K H a xs from sq)
    exact wpAny_pyIter_list pl.isList h
  | true =>
    obtain ⟨its, _, pl, _⟩ := I.tuple (show SqT X.K H a xs from sq)
    exact wpAny_pyIter_tuple pl h
theorem pe_allL (tp : Bool) {X : Cx} {c P : Addr} {elt iter : Expr} {x : Str} {px p pos gpos : Pos} {scope : Scope} (cs : List (Str × Nat)) {tl te : TE} {k : Nat}
    (room : Room (k + 3) X.A) (hg : Gl X "all") (hm : X.mg "all" = none) (hb : bootBuiltins "all" = some (.builtin "all")) (tabB : GxR.TabB X.base X.mg c P) (code_ : X.env.code = .ref c)
    (S : GxR.GenS X.env scope x) (it_ : PE X iter tl) (nd : (x :: cs.map (·.1)).Nodup)
    (caps : ∀ q ∈ cs, X.N[q.2]? = some q.1 ∧ X.env.scope.names.lookup q.1 = some .cell ∧ scope.names.lookup q.1 = some .free ∧
      ∀ b, X.env.cells.lookup q.1 = some b → (cloFrom X.env.cells scope.names []).lookup q.1 = some b)
    (el_ : ∀ (cv : Value) (s : Shared) (H : Hp) (ia : Addr) (A : Around), Room k A →
      PE (gx X (genEnv scope (cloFrom X.env.cells scope.names []) s.heap.objs.size cv builtinsNs X.env) (x :: cs.map (·.1)) s H ia A) elt te)
    (fold_ : ∀ v, genFold iter X.env v = pure v)
    (he : starEach [.GeneratorExp elt [⟨.Name x px, iter, [], 0⟩] scope gpos] X.env =
      (false, eval (.GeneratorExp elt [⟨.Name x px, iter, [], 0⟩] scope gpos) X.env) :: starEach [] X.env := by rfl) :
    PE X (.Call (.Name "all" p) [.GeneratorExp elt [⟨.Name x px, iter, [], 0⟩] scope gpos] [] pos) (tAllL tp X.K P cs tl te) := by
  refine ⟨fun pins s σ H Q I h => ?_⟩
  refine wpAny_Call_Name_kw (ld_blt I hg hm hb ?_)
  refine PyProof.Rows.callWith_builtin1 ?_ he (by rfl)
  rw [he]
  refine (show wpAny _ _ (spliced ((false, eval (.GeneratorExp elt [⟨.Name x px, iter, [], 0⟩] scope gpos) X.env) ::
    backTo pos (starEach [] X.env))) _ _ s from ?_)
  refine Calls.spliced_cons ?_
  refine wpAny_GeneratorExp_make S.co (closure_ok S.free) S.cell S.dot S.kind (by have := room.dp; omega) ?_ fold_
  refine thn (it_.run pins s σ H _ I h) fun vx r1 ⟨v, H1, J, rel, want⟩ => ?_
  obtain ⟨a, xs, rfl, sq, ⟨tb, hTP, htri⟩, Pv, p0, pl, step, fin⟩ := want
  obtain rfl : vx = Value.ref a := rel
  refine iter_of J sq ?_
  have tabS : r1.heap.get? P = some { cls := .none, data := .fields tb } := J.hok P _ hTP
  have ltP : P < r1.heap.objs.size := Heap.lt_size tabS
  generalize hob : ({ cls := .type (itN tp), data := .fields #[.ref a, .int 0 0] } : Obj) = ob
  have tabN : (r1.heap.push ob).get? P = some { cls := .none, data := .fields tb } := Heap.get?_push_of_some _ tabS
  have hdN : PySem.W.CodeHd (r1.heap.push ob) c P := tabB.code.keeps fun b' u' e' => Heap.get?_push_of_some _ (J.bk b' u' e')
  have limN : (r1.heap.push ob).NoLimit := J.nolimit.push ob
  have obN : (r1.heap.push ob).get? r1.heap.objs.size = some ob := Heap.get?_push_size _ (by rw [← hob]; rfl)
  refine ⟨limN, ?_⟩
  have szN : (r1.heap.push ob).objs.size = r1.heap.objs.size + 1 := Heap.size_push ..
  have onward : ∀ (cv : Value) (h3 : Heap) (n3 : Nat) (tb' : Array Value), Heap.ExtBut P (r1.heap.push ob) h3 →
      (r1.heap.push ob).objs.size ≤ h3.objs.size → h3.get? P = some { cls := .none, data := .fields tb' } →
      (∃ more, tb' = tb ++ more) → TriplesOk tb'.toList →
      wpAny (model X.prog X.w) X.A (builtinsFor X.env.globals X.env.builtins) (fun bi s4 =>
        ∀ h', h'.Ns s4.heap.objs.size (fun y => if y = ".0" then some (.ref r1.heap.objs.size) else none) → Heap.SameBut s4.heap.objs.size (s4.heap.push { cls := .type "frame", data := .dict #[] }) h' →
          wpAny (model X.prog X.w) X.A (spliced (backTo pos (starEach [] X.env))) (fun vs s6 => wpAny (model X.prog X.w) X.A (call (.builtin "all") (.ref h'.objs.size :: vs)) (EP X pins σ Q) X.xe s6) X.xe
            { s4 with
              gens := s4.gens.push (.fresh (.compStart (.GeneratorExp elt [⟨.Name x px, iter, [], 0⟩] scope gpos) 0 (.ref r1.heap.objs.size) .none (genEnv scope (cloFrom X.env.cells scope.names []) s4.heap.objs.size cv bi X.env))),
              toks := s4.toks + 1 + 1 + 1,
              heap := h'.push { cls := .type "generator", data := .fields #[.int s4.gens.size 0, .str "<genexpr>" (s4.toks + 1), .str (X.env.qual ++ "<genexpr>") (s4.toks + 1 + 1)] } }) X.xe
        { r1 with heap := h3, toks := n3 } := by
    intro cv h3 n3 tb' ext sz3 tab3 grew tri3
    obtain ⟨bm, mo, f1, f2, f3, f4, f5, f6, f7, f8⟩ := tabB.bm
    have old3 : ∀ b' u', b' ≠ P → r1.heap.get? b' = some u' → h3.get? b' = some u' := fun b' u' ne e' => ext b' u' ne (Heap.get?_push_of_some _ e')
    refine wpAny_builtinsFor (m := X.mg) (by rw [J.ok.glob]; exact ((J.mod.glob.keeps J.bk).push ob).extBut ext tabB.gP) f1 f2 (old3 _ _ f4 (J.bk _ _ f5)) f6 f7 f8 ?_
    intro h' ns sb
    obtain ⟨more, em⟩ := grew
    have J4 := GxR.inv_tab (more := more) (h' := h3) (g' := r1.gens) (d' := r1.drawn) (t' := n3) J hTP old3 (by rw [← em]; exact tab3) J.bare
    generalize hH2 : upd H1 P (.tbl (tb ++ more)) = H2 at J4
    have tbd : GxR.Tabbed P H1 H2 := by
      rw [← hH2]
      exact ⟨⟨tb ++ more, upd_same, by rw [← em]; exact tri3⟩, fun b' ne => upd_ne ne⟩
    generalize hgo : ({ cls := .type "generator", data := .fields #[.int r1.gens.size 0, .str "<genexpr>" (n3 + 1), .str (X.env.qual ++ "<genexpr>") (n3 + 1 + 1)] } : Obj) = go
    have i1 : r1.heap.objs.size < h3.objs.size := Nat.lt_of_lt_of_le (by rw [szN]; exact Nat.lt_succ_self _) sz3
    have ia3 : h3.get? r1.heap.objs.size = some ob := ext _ _ (Nat.ne_of_gt ltP) obN
    have ia' : h'.get? r1.heap.objs.size = some ob := sb.extBut _ _ (Nat.ne_of_lt i1) (Heap.get?_push_of_some _ ia3)
    have i2 : ∀ y b, X.env.cells.lookup y = some b → b ≠ r1.heap.objs.size := fun y b e => by
      obtain ⟨v, z⟩ := J.cell y b e
      exact Nat.ne_of_lt z.lt
    have i3 : ∀ b o, X.base.get? b = some o → b ≠ r1.heap.objs.size := fun b o e => Nat.ne_of_lt (Heap.lt_size (J.bk b o e))
    have i4 : r1.heap.objs.size ∉ frs X.stack := fun z => by
      obtain ⟨_, o, ho, _⟩ := J.stack.mem z
      exact absurd (Heap.lt_size ho) (Nat.lt_irrefl _)
    have I0 := gen_start (cs := cs) (cv := cv) (ia := r1.heap.objs.size) (A := X.A.in1.in1.deeper (genEnv scope (cloFrom X.env.cells scope.names []) h3.objs.size cv builtinsNs X.env))
      (tk := n3 + 1 + 1 + 1) (h2 := h'.push go) (g2 := r1.gens.push (.fresh (.compStart (.GeneratorExp elt [⟨.Name x px, iter, [], 0⟩] scope gpos) 0 (.ref r1.heap.objs.size) .none (genEnv scope (cloFrom X.env.cells scope.names []) h3.objs.size cv builtinsNs X.env))))
      J4 S caps room.hd (by simp [Around.deeper, Around.in1, J4.ok.frames]) i1 i2 i3 i4 ns sb (fun b o e => Heap.get?_push_of_some _ e) (J.bare.push rfl)
    have hel := el_ cv { r1 with heap := h3, toks := n3 } H2 r1.heap.objs.size (X.A.in1.in1.deeper (genEnv scope (cloFrom X.env.cells scope.names []) h3.objs.size cv builtinsNs X.env)) (room.in1.in1.deeper _)
    generalize hY : gx X (genEnv scope (cloFrom X.env.cells scope.names []) h3.objs.size cv builtinsNs X.env) (x :: cs.map (·.1)) { r1 with heap := h3, toks := n3 } H2 r1.heap.objs.size (X.A.in1.in1.deeper (genEnv scope (cloFrom X.env.cells scope.names []) h3.objs.size cv builtinsNs X.env)) = Y at I0 hel
    have isgo : go.cls = .type "generator" := by rw [← hgo]
    have gaI : (h'.push go).get? h'.objs.size = some go := Heap.get?_push_size _ (by rw [← hgo]; rfl)
    have szH : h'.objs.size = h3.objs.size + 1 := sb.1.trans (Heap.size_push ..)
    have gaH : H2 h'.objs.size = none := J4.hok.fresh (show h3.objs.size ≤ h'.objs.size by omega)
    have I1 : Inv Y [(h'.objs.size, go)] (none :: cs.map (fun p => σ.getD p.2 none)) H2 { r1 with heap := h'.push go, gens := r1.gens.push (.fresh (.compStart (.GeneratorExp elt [⟨.Name x px, iter, [], 0⟩] scope gpos) 0 (.ref r1.heap.objs.size) .none (genEnv scope (cloFrom X.env.cells scope.names []) h3.objs.size cv builtinsNs X.env))), toks := n3 + 1 + 1 + 1 } :=
      I0.pins_of fun q hq => by
        obtain rfl := List.mem_singleton.mp hq
        refine ⟨gaI, gaH, ?_, ?_, ?_⟩
        · rw [← hY]
          show h'.objs.size ≠ h3.objs.size
          omega
        · rw [← hY]
          intro z
          obtain ⟨_, o, ho, _⟩ := J.stack.mem (show h'.objs.size ∈ frs X.stack from z)
          have q1 : h'.objs.size < r1.heap.objs.size := Heap.lt_size ho
          omega
        · intro v z
          rw [← hgo] at z
          cases z
    have gs0 : GS Y h'.objs.size go r1.heap.objs.size (ItO tp a) (none :: cs.map (fun p => σ.getD p.2 none)) r1.gens.size Pv 0
        { r1 with heap := h'.push go, gens := r1.gens.push (.fresh (.compStart (.GeneratorExp elt [⟨.Name x px, iter, [], 0⟩] scope gpos) 0 (.ref r1.heap.objs.size) .none (genEnv scope (cloFrom X.env.cells scope.names []) h3.objs.size cv builtinsNs X.env))), toks := n3 + 1 + 1 + 1 } := by
      refine ⟨H2, I1, ?_, ⟨ob, Heap.get?_push_of_some _ ia', ?_⟩, by simp, p0 H2 tbd⟩
      · rw [← hH2, upd_ne (Nat.ne_of_gt ltP)]
        exact J.hok.fresh (Nat.le_refl _)
      · rw [← hob]
        exact ⟨rfl, rfl⟩
    have nY : Y.N.Nodup := by rw [← hY]; exact nd
    have gl := gl_loop (X := Y) (B := X.A.in1.in1) (ga := h'.objs.size) (go := go) (ia := r1.heap.objs.size) (yl := a) (tp := tp) (σ0 := none :: cs.map (fun p => σ.getD p.2 none)) (g := r1.gens.size) (Pv := Pv) (Qf := fun H' => Q (.bl false) H')
      (xs := xs) (te := te) (elt := elt) (iter := iter) (x := x) (px := px) (pos := gpos) (scope := scope) (by rw [← hY]; rfl) room.hd isgo (by rw [← hY]; rfl) (by rw [← hY]; exact List.mem_singleton.mpr rfl) nY
      (by rw [← hY]; rfl) (by rw [← hY]; exact S.loc) (by rw [← hY]; exact S.co) rfl hel (fun e s z => by rw [← hY] at z; exact z) (fun i H p => by rw [← hY]; exact pl i H p) (fun i v H hv p => (show (none :: cs.map (fun p => σ.getD p.2 none) : L2.St).set 0 (some v) = some v :: cs.map (fun p => σ.getD p.2 none) from rfl) ▸ step i v H hv p)
    have eY : Y.env = genEnv scope (cloFrom X.env.cells scope.names []) h3.objs.size cv builtinsNs X.env := by rw [← hY]; rfl
    refine Calls.spliced_nil ?_
    refine call_function_tree F.kind_all F.plain_all F.entry_all (F.args_all1 _) ?_
    unfold Builtin.«all»
    refine wpAny_bind (m := oneArg "all" _) (wpAny_pure ?_)
    refine wpAny_bind ?_
    have isG : ∀ h : Heap, h.get? h'.objs.size = some go → h.IsGen h'.objs.size r1.gens.size := fun h e =>
      ⟨go, _, _, e, isgo, by rw [← hgo], by rw [← hgo]⟩
    refine wpAny_pyIter_gen (isG _ gaI) ?_
    refine wpAny_pure ⟨plainId_quiet F.plain_all_loop _, ?_⟩
    have pY : model X.prog X.w = model Y.prog Y.w := by rw [← hY]; rfl
    rw [pY]
    refine gl_all (X := Y) (A := X.A) (B := X.A.in1.in1) (g := r1.gens.size) (tp := tp) (yl := a) (ia := r1.heap.objs.size) (σ0 := none :: cs.map (fun p => σ.getD p.2 none)) (Pv := Pv) (Qf := fun H' => Q (.bl false) H') (xs := xs) room.hd rfl room.depth isG ?_ xs.length 0 _ _ (Nat.zero_add _) gs0 Array.getElem?_push_size ?_
    · intro b s' H3 I3 q
      have e3 : s'.os = r1.os := by
        have := I3.os
        rw [← hY] at this
        exact this
      have u3 : Un (frs X.stack) [r1.heap.objs.size] H2 H3 h3 s'.heap := by
        have := I3.base
        rw [← hY] at this
        exact this
      have ok3 : HOk X.prog X.w H3 s'.heap := by
        have := I3.hok
        rw [← hY] at this
        exact this
      have out := J4.call' (s' := s') e3 u3 ok3 I3.bare (fun b hb => by
        obtain rfl := List.mem_singleton.mp hb
        refine ⟨.inr J.sz, Nat.ne_of_gt J.lt, i2, fun p hp z => ?_⟩
        obtain ⟨e, _⟩ := J.pin p hp
        rw [z] at e
        exact absurd (Heap.lt_size e) (Nat.lt_irrefl _))
      refine ⟨.bl b, H3, out, rfl, ?_⟩
      cases b with
      | true => rw [if_pos rfl] at q; exact fin H3 q
      | false => rw [if_neg Bool.false_ne_true] at q; exact q
    · intro s2 z1 z2 z3 z4
      refine ⟨rfl, ?_⟩
      have gs2 := gs0.gens z1 z2 z3 z4
      have lp := gl xs.length 0 s2 s2 (by omega) (Nat.zero_le _) gs2
      have out := gl_start (X := Y) (B := X.A.in1.in1) room.hd (tp := tp) (yl := a) (i := 0) (ia := r1.heap.objs.size) (by
        rw [z1]
        refine ⟨ob, Heap.get?_push_of_some _ ia', ?_⟩
        rw [← hob]
        exact ⟨rfl, rfl⟩) lp
      rw [eY] at out
      exact out
  cases seek : codeAmong gpos tb.toList with
  | none =>
    refine wpAny_genexprCodeX code_ (hdN.code tabN htri) (hdN.tab tabN) seek fun c' h' n' ext ge lt hco' _ htab' _ => ?_
    obtain ⟨_, _, _, _, _, _, _, _, _, _, _, _, _, _, _, _, _, _, _, tri', _⟩ := hco'
    exact onward _ h' n' _ ext (Nat.le_trans ge (Nat.le_of_lt lt)) htab'.2 ⟨_, rfl⟩ tri'
  | some cv =>
    refine wpAny_genexprCode_hit code_ (hdN.code tabN htri) seek ?_
    exact onward cv (r1.heap.push ob) r1.toks tb (Heap.ExtBut.refl _ _) (Nat.le_refl _) tabN ⟨#[], by simp⟩ htri
end LL
namespace LL
open PySem PySem.Spec PyProof.Rows L2

/-- the element over one sign; the name y is captured and holds the text b -/
def EltC (prog : Program) (w : World) (scope : Scope) (x y : Str) (elt : Expr) (b : Str) (pb : Nat → Bool) : Prop :=
  ∀ (ce : Env) (B : Around) (Ex : Value → Shared → Prop) (d : Nat) (u v : Tok) (r : Shared) (mm : Str → Option Value) (q : Addr),
    ce.scope = scope → ce.cells.lookup y = some q → r.heap.IsCell q (some (.str b v)) → r.heap.Ns ce.locals mm →
    mm x = some (.str ⟨#[d]⟩ u) → wpAny (model prog w) B (eval elt ce) (fun z r' => z = .bool (pb d) ∧ Keeps r r') Ex r

/-- sign in signs -/
theorem elt_in {prog : Program} {w : World} {scope : Scope} {x y b : Str} {p1 p2 p3 : Pos} (hk : scope.kind = .function)
    (hl : scope.names.lookup x = some .local) (hy : scope.names.lookup y = some .free)
    (d1 : (x == ("__debug__" : Str)) = false := by decide) (d2 : (y == ("__debug__" : Str)) = false := by decide)
    (d3 : (y == ("__classdict__" : Str)) = false := by decide) :
    EltC prog w scope x y (.Compare (.Name x p1) [.In] [.Name y p2] p3) b
      (fun c => !(Builtin.Str.occurrences b ⟨#[c]⟩ 0 b.length 1).isEmpty) := by
  intro ce B Ex d u v r mm q hs hc hq hn hm
  refine wpAny_Compare1 ?_
  refine wpAny_Name (wpAny_loadName_local (by rw [hs]; exact hk)
    (show ce.scope.names.lookup x = some .local by rw [hs]; exact hl) hn hm ?_) d1
  refine wpAny_Name (wpAny_loadName_free (by rw [hs]; exact hk)
    (show ce.scope.names.lookup y = some .free by rw [hs]; exact hy) hc hq ?_ d3) d2
  exact in_str ⟨rfl, GxR.keeps_tok _ _⟩

section
variable {X : Cx} {pins : List (Addr × Obj)} {σ : L2.St} {H : Hp} {s : Shared}

theorem gen_cap {c P : Addr} {elt iter : Expr} {x y : Str} {px gpos : Pos} {scope : Scope} {pb : Str → Nat → Bool}
    {te : TE} {k j : Nat} {Q' : Value → Shared → Prop} {R : Str → Str → Hp → Prop}
    (room : Room k X.A) (tabB : GxR.TabB X.base X.mg c P) (code_ : X.env.code = .ref c) (S : GxR.GenS X.env scope x)
    (it_ : PE X iter te) (el_ : ∀ b, EltC X.prog X.w scope x y elt b (pb b))
    (hj : X.N[j]? = some y) (hcel : X.env.scope.names.lookup y = some .cell)
    (hclo : ∀ cells q, cells.lookup y = some q → (cloFrom cells scope.names []).lookup y = some q)
    (fold_ : ∀ v, genFold iter X.env v = pure v) (I : Inv X pins σ H s)
    (h : te σ H fun v H1 => ∃ a b : Str, v = .str a ∧ σ[j]? = some (some (.str b)) ∧ GxR.TabG H1 P ∧ R a b H1)
    (fin : ∀ a b H1 g s5, R a b H1 → GxR.Ready X pins σ H1 P a (pb b) g s5 → Q' (.ref g) s5) :
    wpAny (model X.prog X.w) X.A (eval (.GeneratorExp elt [⟨.Name x px, iter, [], 0⟩] scope gpos) X.env) Q' X.xe s := by
  refine wpAny_GeneratorExp_walksQ room.hd S.co (closure_ok S.free) S.cell S.dot S.loc S.kind
    (by have := room.dp; omega) ?_ fold_
  refine thn (it_.run pins s σ H _ I h) fun vx r1 ⟨v, H1, J, rel, want⟩ => ?_
  obtain ⟨a, b, rfl, hb, ⟨tb, hTP, htri⟩, want⟩ := want
  obtain ⟨tk0, rfl⟩ := _root_.id rel
  -- the captured cell
  obtain ⟨mloc, _, hlook⟩ := J.loc
  obtain ⟨ub, rub, lub⟩ := hlook j y (.str b) hj hb (Or.inr (Or.inl hcel))
  obtain ⟨tkb, rfl⟩ := (show ∃ t, ub = Value.str b t from rub)
  have capt : ∃ q, X.env.cells.lookup y = some q ∧ r1.heap.IsCell q (some (.str b tkb)) := by
    rcases lub with ⟨hk1, _⟩ | ⟨_, q, hq1, hq2⟩
    · have hk2 : X.env.scope.names.lookup y = some .local := hk1
      rw [hcel] at hk2
      cases hk2
    · exact ⟨q, hq1, hq2⟩
  obtain ⟨q, hq1, oq, hqo, hqd⟩ := capt
  refine wpAny_pyIter_str fun ob Stp Wk hst0 => ?_
  have tabS : r1.heap.get? P = some { cls := .none, data := .fields tb } := J.hok P _ hTP
  have qP : q ≠ P := fun z => by
    rw [z, tabS] at hqo
    cases hqo
    cases hqd
  have ltP : P < r1.heap.objs.size := Heap.lt_size tabS
  have ltq : q < r1.heap.objs.size := Heap.lt_size hqo
  have tabN : (r1.heap.push ob).get? P = some { cls := .none, data := .fields tb } := Heap.get?_push_of_some _ tabS
  have hdN : PySem.W.CodeHd (r1.heap.push ob) c P :=
    tabB.code.keeps fun b' u' e' => Heap.get?_push_of_some _ (J.bk b' u' e')
  have limN : (r1.heap.push ob).NoLimit := J.nolimit.push ob
  refine ⟨limN, ?_⟩
  -- behind the code object, whichever it is
  have onward : ∀ (cv : Value) (h3 : Heap) (n3 : Nat) (tb' : Array Value), Heap.ExtBut P (r1.heap.push ob) h3 →
      (r1.heap.push ob).objs.size ≤ h3.objs.size → h3.get? P = some { cls := .none, data := .fields tb' } →
      (∃ more, tb' = tb ++ more) → TriplesOk tb'.toList →
      wpAny (model X.prog X.w) X.A (builtinsFor X.env.globals X.env.builtins) (fun bi s4 =>
        ∃ Ia fp wr n₀ Pf St₀ pz F, Value.ref r1.heap.objs.size = .ref Ia ∧
          (∀ A2 : Around, A2.handled = none → Walks X.prog X.w A2 Ia fp wr n₀ Pf St₀) ∧ St₀ 0 s4.heap ∧
          (∀ b' ∈ fp, b' < s4.heap.objs.size) ∧ s4.heap.NoLimit ∧ cStatics ∉ wr ∧
          (∀ hr : Heap, (∀ b' o', s4.heap.get? b' = some o' → hr.get? b' = some o') →
            QuietGen X.prog X.w
              (genEnv scope (cloFrom X.env.cells scope.names []) s4.heap.objs.size cv bi X.env)
              x [] elt (List.range s4.heap.objs.size) wr Pf pz F hr) ∧
          (∀ a' h5 n5 gs, gs.bare = true → s4.heap.objs.size < a' → h5.objs.size = a' + 1 →
            (∀ b' o', s4.heap.get? b' = some o' → h5.get? b' = some o') →
            WalksS X.prog X.w X.A.in4 a' (a' :: s4.heap.objs.size :: List.range s4.heap.objs.size)
              (s4.heap.objs.size :: wr) (GenOnlyQ s4.gens.size) (passing pz n₀ 0).length
              (fun i' y' => ∃ i, (passing pz n₀ 0)[i']? = some i ∧ F i y')
              (GenAt X.prog X.w X.A.in4 a' s4.gens.size s4.heap.objs.size
                (List.range s4.heap.objs.size) wr pz n₀ F) →
            GenAt X.prog X.w X.A.in4 a' s4.gens.size s4.heap.objs.size
              (List.range s4.heap.objs.size) wr pz n₀ F 0
              { s4 with gens := s4.gens.push gs, toks := n5, heap := h5 } →
            Q' (.ref a') { s4 with gens := s4.gens.push gs, toks := n5, heap := h5 })) X.xe
        { r1 with heap := h3, toks := n3 } := by
    intro cv h3 n3 tb' ext sz3 tab3 grew tri3
    obtain ⟨bm, mo, f1, f2, f3, f4, f5, f6, f7, f8⟩ := tabB.bm
    have statP : cStatics ≠ P := fun z => by
      obtain ⟨_, hns, _⟩ := J.nolimit
      obtain ⟨_, _, _, ho, hd, _⟩ := hns
      rw [z, tabS] at ho
      cases ho
      cases hd
    have statL : cStatics < r1.heap.objs.size := by
      obtain ⟨_, hns, _⟩ := J.nolimit
      exact hns.lt
    have szN : (r1.heap.push ob).objs.size = r1.heap.objs.size + 1 := Heap.size_push ..
    have old3 : ∀ b' u', b' ≠ P → r1.heap.get? b' = some u' → h3.get? b' = some u' :=
      fun b' u' ne e' => ext b' u' ne (Heap.get?_push_of_some _ e')
    have cell3 : h3.get? q = some oq := old3 q oq qP hqo
    refine wpAny_builtinsFor (m := X.mg)
      (by rw [J.ok.glob]; exact ((J.mod.glob.keeps J.bk).push ob).extBut ext tabB.gP)
      f1 f2 (old3 _ _ f4 (J.bk _ _ f5)) f6 f7 f8 ?_
    refine ⟨r1.heap.objs.size, [r1.heap.objs.size], [r1.heap.objs.size], a.cps.size, SignAt a, Stp, (fun _ => true),
      (fun i z => ∃ cc, a.cps[i]? = some cc ∧ z = .bool (pb b cc)), rfl, Wk, ?_, ?_, limN.extBut ext statP, ?_, ?_, ?_⟩
    · refine (Wk X.A room.hd).frame _ _ _ hst0 fun b' mem' u' e' => ext b' u' (fun z => ?_) e'
      rcases List.mem_cons.mp mem' with z2 | z2
      · exact Nat.ne_of_lt ltP (z.symm.trans z2)
      · cases z2
    · intro b' mem'
      rcases List.mem_cons.mp mem' with z | z
      · rw [z]
        exact Nat.lt_of_lt_of_le (by rw [szN]; exact Nat.lt_succ_self _) sz3
      · cases z
    · intro mem'
      rcases List.mem_cons.mp mem' with z | z
      · exact Nat.ne_of_lt statL z
      · cases z
    · intro hr hhr
      refine ⟨fun A2 E2 i v' s2 m2 _ _ _ _ _ => ?_, fun A2 E2 i v' s2 m2 _ at_ _ ns2 m2x keep2 => ?_⟩
      · simp only [List.forIn_nil]
        exact wpAny_pure ⟨rfl, GxR.keeps_refl _⟩
      · obtain ⟨cc, tk', hcc, rfl⟩ := at_
        have q2 : s2.heap.get? q = some oq := by
          refine keep2 q (List.mem_range.mpr ?_) ?_ oq (hhr q oq cell3)
          · exact Nat.lt_of_lt_of_le ltq (Nat.le_trans (by rw [szN]; exact Nat.le_succ _) sz3)
          · intro z
            rcases List.mem_cons.mp z with z | z
            · exact Nat.ne_of_lt ltq z
            · cases z
        exact wpAny_mono (el_ b _ A2 E2 cc tk' tkb s2 m2 q rfl (hclo _ _ hq1) ⟨oq, q2, hqd⟩ ns2 m2x)
          (fun z s3 r => ⟨⟨cc, hcc, r.1⟩, r.2⟩) fun _ _ e => e
    · intro g h5 n5 gs bare5 above5 sz5 keep5 W5 gat
      simp only [GxR.passing_true, List.length_range] at W5
      refine fin a b H1 g _ want ⟨_, _, _, _, _, W5.in4_1, gat, ?_, fun s9 mv => ?_⟩
      · intro i' z' sj Qj Ej hz' hQj
        obtain ⟨i, hi, cc, hcc, rfl⟩ := hz'
        obtain ⟨_, ei⟩ := List.getElem?_eq_some_iff.mp hi
        rw [List.getElem_range] at ei
        subst ei
        have at9 : a.cps.toList[i']? = some cc := by rw [Array.getElem?_toList]; exact hcc
        have hQ2 : Qj (GxR.trF (pb b) a.cps.toList i') sj := hQj
        rw [GxR.trF_some at9] at hQ2
        exact wpAny_truthy_bool hQ2
      · obtain ⟨more, em⟩ := grew
        have apart : ∀ b' u', r1.heap.get? b' = some u' → b' ∉ h3.objs.size :: [r1.heap.objs.size] := fun b' u' e' mem' => by
          have lt' := Heap.lt_size e'
          have sz9 : r1.heap.objs.size + 1 ≤ h3.objs.size := szN ▸ sz3
          rcases List.mem_cons.mp mem' with z | z
          · rw [z] at lt'
            exact absurd (Nat.lt_trans lt' (Nat.lt_of_lt_of_le (Nat.lt_succ_self _) sz9)) (Nat.lt_irrefl _)
          · rcases List.mem_cons.mp z with z | z
            · rw [z] at lt'
              exact Nat.lt_irrefl _ lt'
            · cases z
        have J9 := GxR.inv_tab (more := more) (h' := s9.heap) (g' := s9.gens) (d' := s9.drawn) (t' := s9.toks) J hTP
          (fun b' u' ne e' => mv.heap b' u' (apart b' u' e') (keep5 b' u' (old3 b' u' ne e')))
          (by rw [← em]; exact mv.heap P _ (apart P _ tabS) (keep5 P _ tab3)) (AllBare.movedS (J.bare.push bare5) mv)
        rw [GxR.sh_eta r1 s9 mv.os] at J9
        exact ⟨upd H1 P (.tbl (tb ++ more)), ⟨⟨tb ++ more, upd_same, by rw [← em]; exact tri3⟩, fun b' ne => upd_ne ne⟩, J9⟩
  cases seek : codeAmong gpos tb.toList with
  | none =>
    refine wpAny_genexprCodeX code_ (hdN.code tabN htri) (hdN.tab tabN) seek fun c' h' n' ext ge lt hco' _ htab' _ => ?_
    obtain ⟨_, _, _, _, _, _, _, _, _, _, _, _, _, _, _, _, _, _, _, tri', _⟩ := hco'
    exact onward _ h' n' _ ext (Nat.le_trans ge (Nat.le_of_lt lt)) htab'.2 ⟨_, rfl⟩ tri'
  | some cv =>
    refine wpAny_genexprCode_hit code_ (hdN.code tabN htri) seek ?_
    exact onward cv (r1.heap.push ob) r1.toks tb (Heap.ExtBut.refl _ _) (Nat.le_refl _) tabN ⟨#[], by simp⟩ htri

/-- all(elt for x in e), e a text, one captured text -/
def tAllC (P : Addr) (j : Nat) (pb : Str → Nat → Bool) (te : TE) : TE := fun σ H Q =>
  te σ H fun v H1 => ∃ a b : Str, v = .str a ∧ σ[j]? = some (some (.str b)) ∧ GxR.TabG H1 P ∧
    ∀ H2, GxR.Tabbed P H1 H2 → Q (.bl (a.cps.toList.all (pb b))) H2
theorem pe_allC {c P : Addr} {elt iter : Expr} {x y : Str} {px p pos gpos : Pos} {scope : Scope} {pb : Str → Nat → Bool}
    {te : TE} {k j : Nat} (room : Room k X.A) (hg : Gl X "all") (hm : X.mg "all" = none)
    (hb : bootBuiltins "all" = some (.builtin "all")) (tabB : GxR.TabB X.base X.mg c P) (code_ : X.env.code = .ref c)
    (S : GxR.GenS X.env scope x) (it_ : PE X iter te) (el_ : ∀ b, EltC X.prog X.w scope x y elt b (pb b))
    (hj : X.N[j]? = some y) (hcel : X.env.scope.names.lookup y = some .cell)
    (hclo : ∀ cells q, cells.lookup y = some q → (cloFrom cells scope.names []).lookup y = some q)
    (fold_ : ∀ v, genFold iter X.env v = pure v)
    (he : starEach [.GeneratorExp elt [⟨.Name x px, iter, [], 0⟩] scope gpos] X.env =
      (false, eval (.GeneratorExp elt [⟨.Name x px, iter, [], 0⟩] scope gpos) X.env) :: starEach [] X.env := by rfl) :
    PE X (.Call (.Name "all" p) [.GeneratorExp elt [⟨.Name x px, iter, [], 0⟩] scope gpos] [] pos) (tAllC P j pb te) := by
  refine ⟨fun pins s σ H Q I h => ?_⟩
  refine wpAny_Call_Name_kw (ld_blt I hg hm hb ?_)
  refine PyProof.Rows.callWith_builtin1 ?_ he (by rfl)
  rw [he]
  refine (show wpAny _ _ (spliced ((false, eval (.GeneratorExp elt [⟨.Name x px, iter, [], 0⟩] scope gpos) X.env) ::
    backTo pos (starEach [] X.env))) _ _ s from ?_)
  refine Calls.spliced_cons (gen_cap (R := fun a b H1 => ∀ H2, GxR.Tabbed P H1 H2 → Q (.bl (a.cps.toList.all (pb b))) H2)
    room tabB code_ S it_ el_ hj hcel hclo fold_ I h fun a b H1 g s5 hR rd => ?_)
  obtain ⟨fp, wr, G, F, Stg, Wg, hst, htr, back⟩ := rd
  refine Calls.spliced_nil ?_
  refine call_all_walkS (Wg.self 0 _ _ _ hst ⟨g, fp, wr, G, _, F, Stg, _, rfl, Wg, hst, htr, fun s9 mv => ?_⟩)
  obtain ⟨H2, tbd, J⟩ := back s9 mv
  refine ⟨.bl _, H2, J, rfl, ?_⟩
  rw [GxR.all_signs a (pb b)]
  exact hR H2 tbd
end
end LL
namespace LL
open PySem PySem.Spec PyProof.Rows L2
/-! ### rows of stretches, as sets of numbers -/
abbrev Pr := Nat × Nat
def has (r : List Pr) (n : Nat) : Bool := r.any fun z => decide (z.1 ≤ n) && decide (n < z.2)
def TidyFrom : Nat → List Pr → Prop
  | _, [] => True
  | b, z :: r => b ≤ z.1 ∧ z.1 < z.2 ∧ z.2 ≤ 400 ∧ TidyFrom (z.2 + 1) r
instance : ∀ (r : List Pr) (b : Nat), Decidable (TidyFrom b r)
  | [], _ => isTrue trivial
  | z :: r, b =>
    have := instDecidableTidyFrom r (z.2 + 1)
    by unfold TidyFrom; infer_instance
def Tidy (r : List Pr) : Prop := TidyFrom 0 r
instance (r : List Pr) : Decidable (Tidy r) := by unfold Tidy; infer_instance
/-- each a stretch -/
def Valid (r : List Pr) : Prop := ∀ z ∈ r, z.1 < z.2 ∧ z.2 ≤ 400
theorem has_nil (n : Nat) : has [] n = false := rfl
theorem has_cons (z : Pr) (r : List Pr) (n : Nat) : has (z :: r) n = ((decide (z.1 ≤ n) && decide (n < z.2)) || has r n) := rfl
theorem has_app (r q : List Pr) (n : Nat) : has (r ++ q) n = (has r n || has q n) := List.any_append
theorem has_one (b e n : Nat) : has [(b, e)] n = (decide (b ≤ n) && decide (n < e)) := by rw [has_cons, has_nil, Bool.or_false]
theorem TidyFrom.valid : ∀ {r : List Pr} {b : Nat}, TidyFrom b r → Valid r
  | [], _, _, _, h => nomatch h
  | z :: r, b, ⟨_, h2, h3, h4⟩, y, h => by
    rcases List.mem_cons.mp h with rfl | h
    · exact ⟨h2, h3⟩
    · exact h4.valid y h
theorem TidyFrom.weak : ∀ {r : List Pr} {b c : Nat}, c ≤ b → TidyFrom b r → TidyFrom c r
  | [], _, _, _, _ => trivial
  | _ :: _, _, _, l, ⟨h1, h2⟩ => ⟨Nat.le_trans l h1, h2⟩
theorem TidyFrom.low : ∀ {r : List Pr} {b n : Nat}, TidyFrom b r → has r n = true → b ≤ n ∧ n < 400
  | [], _, _, _, h => nomatch h
  | z :: r, b, n, ⟨h1, h2, h3, h4⟩, h => by
    rw [has_cons] at h
    rcases Bool.or_eq_true_iff.mp h with h | h
    · have h := Bool.and_eq_true_iff.mp h
      have l := of_decide_eq_true h.1
      have u := of_decide_eq_true h.2
      omega
    · have := h4.low h
      omega
theorem TidyFrom.none {r : List Pr} {b n : Nat} (h : TidyFrom b r) (l : n < b) : has r n = false := by
  cases q : has r n with
  | false => rfl
  | true =>
    have := (h.low q).1
    omega
theorem has_lt {r : List Pr} {n : Nat} (h : Valid r) (q : has r n = true) : n < 400 := by
  obtain ⟨z, hz, q⟩ := List.any_eq_true.mp q
  have q := Bool.and_eq_true_iff.mp q
  have := of_decide_eq_true q.2
  have := (h z hz).2
  omega
/-- two tidy rows of the same numbers are one -/
theorem tidy_one : ∀ {r q : List Pr} {b c : Nat}, TidyFrom b r → TidyFrom c q → (∀ n, has r n = has q n) → r = q
  | [], [], _, _, _, _, _ => rfl
  | [], z :: q, _, c, _, ⟨h1, h2, _, _⟩, e => by
    have := e z.1
    rw [has_nil, has_cons, decide_eq_true (Nat.le_refl z.1), decide_eq_true h2] at this
    cases this
  | z :: r, [], b, _, ⟨h1, h2, _, _⟩, _, e => by
    have := e z.1
    rw [has_nil, has_cons, decide_eq_true (Nat.le_refl z.1), decide_eq_true h2] at this
    cases this
  | z :: r, y :: q, b, c, ⟨h1, h2, h3, h4⟩, ⟨g1, g2, g3, g4⟩, e => by
    have inZ : ∀ n, z.1 ≤ n → n < z.2 → has (z :: r) n = true := fun n l u => by rw [has_cons, decide_eq_true l, decide_eq_true u]; rfl
    have inY : ∀ n, y.1 ≤ n → n < y.2 → has (y :: q) n = true := fun n l u => by rw [has_cons, decide_eq_true l, decide_eq_true u]; rfl
    have lowZ : ∀ n, n < z.1 → has (z :: r) n = false := fun n l => TidyFrom.none (b := z.1) (r := z :: r) ⟨Nat.le_refl _, h2, h3, h4⟩ l
    have lowY : ∀ n, n < y.1 → has (y :: q) n = false := fun n l => TidyFrom.none (b := y.1) (r := y :: q) ⟨Nat.le_refl _, g2, g3, g4⟩ l
    have e1 : z.1 = y.1 := by
      rcases Nat.lt_trichotomy z.1 y.1 with l | l | l
      · have a := inZ z.1 (Nat.le_refl _) h2
        rw [e, lowY _ l] at a
        cases a
      · exact l
      · have a := inY y.1 (Nat.le_refl _) g2
        rw [← e, lowZ _ l] at a
        cases a
    have outZ : has (z :: r) z.2 = false := by
      rw [has_cons, decide_eq_false (Nat.lt_irrefl _), Bool.and_false, Bool.false_or]
      exact h4.none (Nat.lt_succ_self _)
    have outY : has (y :: q) y.2 = false := by
      rw [has_cons, decide_eq_false (Nat.lt_irrefl _), Bool.and_false, Bool.false_or]
      exact g4.none (Nat.lt_succ_self _)
    have e2 : z.2 = y.2 := by
      rcases Nat.lt_trichotomy z.2 y.2 with l | l | l
      · have a := inY z.2 (by omega) l
        rw [← e, outZ] at a
        cases a
      · exact l
      · have a := inZ y.2 (by omega) l
        rw [e, outY] at a
        cases a
    have e3 : z = y := Prod.ext e1 e2
    subst e3
    have e4 : r = q := tidy_one h4 g4 fun n => by
      by_cases l : n < z.2 + 1
      · rw [h4.none l, g4.none l]
      · have a := e n
        rw [has_cons, has_cons, decide_eq_false (show ¬ n < z.2 by omega), Bool.and_false, Bool.false_or, Bool.false_or] at a
        exact a
    rw [e4]
theorem tidy_eq {r q : List Pr} (h : Tidy r) (g : Tidy q) (e : ∀ n, has r n = has q n) : r = q := tidy_one h g e
theorem TidyFrom.app : ∀ {r : List Pr} {b x y : Nat}, TidyFrom b r → (∀ z ∈ r, z.2 < x) → b ≤ x → x < y → y ≤ 400 → TidyFrom b (r ++ [(x, y)])
  | [], _, _, _, _, _, l, l2, l3 => ⟨l, l2, l3, trivial⟩
  | z :: r, b, x, y, ⟨h1, h2, h3, h4⟩, h, l, l2, l3 => ⟨h1, h2, h3, h4.app (fun w hw => h w (List.mem_cons_of_mem _ hw)) (h z List.mem_cons_self) l2 l3⟩
theorem Tidy.app {r : List Pr} {x y : Nat} (h : Tidy r) (l : ∀ z ∈ r, z.2 < x) (l2 : x < y) (l3 : y ≤ 400) : Tidy (r ++ [(x, y)]) := TidyFrom.app h l (Nat.zero_le _) l2 l3
/-- the last stretch goes one further -/
theorem TidyFrom.grow : ∀ {r : List Pr} {b x y : Nat}, TidyFrom b (r ++ [(x, y)]) → y + 1 ≤ 400 → TidyFrom b (r ++ [(x, y + 1)])
  | [], _, _, _, ⟨h1, h2, _, _⟩, l => ⟨h1, Nat.lt_succ_of_lt h2, l, trivial⟩
  | z :: r, b, x, y, ⟨h1, h2, h3, h4⟩, l => ⟨h1, h2, h3, TidyFrom.grow (r := r) h4 l⟩
theorem TidyFrom.len : ∀ {r : List Pr} {b : Nat}, TidyFrom b r → 2 * r.length + b ≤ 402 ∨ r = []
  | [], _, _ => .inr rfl
  | z :: r, b, ⟨h1, h2, h3, h4⟩ => by
    rcases h4.len with k | rfl
    · left
      rw [List.length_cons]
      omega
    · left
      rw [List.length_cons, List.length_nil]
      omega
theorem Tidy.len {r : List Pr} (h : Tidy r) : r.length ≤ 201 := by
  rcases TidyFrom.len h with k | rfl
  · omega
  · exact Nat.zero_le _
/-! ### the same as whole numbers -/
def span (z : Pr) : Nat := 2 ^ z.2 - 2 ^ z.1
theorem span_bit {z : Pr} (h : z.1 ≤ z.2) (n : Nat) : (span z).testBit n = (decide (z.1 ≤ n) && decide (n < z.2)) := by
  obtain ⟨b, e⟩ := z
  obtain ⟨k, rfl⟩ := Nat.exists_eq_add_of_le (show b ≤ e from h)
  have e1 : span (b, b + k) = 2 ^ b * (2 ^ k - 1) := by
    show 2 ^ (b + k) - 2 ^ b = _
    rw [Nat.pow_add, Nat.mul_sub, Nat.mul_one]
  rw [e1, Nat.testBit_two_pow_mul, Nat.testBit_two_pow_sub_one]
  by_cases l : b ≤ n
  · rw [decide_eq_true (show n ≥ b from l), Bool.true_and, Bool.true_and, decide_eq_decide]
    show n - b < k ↔ n < b + k
    omega
  · rw [decide_eq_false (show ¬ n ≥ b from l)]
    rfl
def maskN (r : List Pr) : Nat := r.foldl (fun m z => m ||| span z) 0
theorem mask_fold : ∀ (r : List Pr) (m n : Nat), Valid r → (r.foldl (fun m z => m ||| span z) m).testBit n = (m.testBit n || has r n)
  | [], m, n, _ => by rw [has_nil, Bool.or_false]; rfl
  | z :: r, m, n, h => by
    rw [List.foldl_cons, mask_fold r _ n (fun y hy => h y (List.mem_cons_of_mem _ hy)), Nat.testBit_or, span_bit (Nat.le_of_lt (h z List.mem_cons_self).1), has_cons, Bool.or_assoc]
theorem mask_bit {r : List Pr} (h : Valid r) (n : Nat) : (maskN r).testBit n = has r n := by
  unfold maskN
  rw [mask_fold r 0 n h, Nat.zero_testBit, Bool.false_or]
theorem lt_of_bits {m k : Nat} (h : ∀ n, m.testBit n = true → n < k) : m < 2 ^ k := by
  apply Nat.lt_pow_two_of_testBit
  intro i hi
  cases q : m.testBit i with
  | false => rfl
  | true =>
    have := h i q
    omega
theorem mask_lt {r : List Pr} (h : Valid r) : maskN r < 2 ^ 400 := lt_of_bits fun n q => by
  rw [mask_bit h] at q
  exact has_lt h q
/-! ### the lowest figure -/
theorem odd_part : ∀ a : Nat, 0 < a → ∃ k j : Nat, a = 2 ^ k * (2 * j + 1) := by
  intro a
  induction a using Nat.strongRecOn with
  | ind a ih =>
    intro h
    by_cases o : a % 2 = 1
    · exact ⟨0, a / 2, by rw [Nat.pow_zero, Nat.one_mul]; omega⟩
    · obtain ⟨k, j, e⟩ := ih (a / 2) (by omega) (by omega)
      refine ⟨k + 1, j, ?_⟩
      rw [Nat.pow_succ, Nat.mul_comm (2 ^ k) 2, Nat.mul_assoc, ← e]
      omega
theorem and_pred (k j : Nat) : (2 ^ k * (2 * j + 1)) &&& (2 ^ k * (2 * j + 1) - 1) = 2 ^ k * (2 * j) := by
  have p := Nat.two_pow_pos k
  have e1 : 2 ^ k * (2 * j + 1) - 1 = 2 ^ k * (2 * j) + (2 ^ k - 1) := by
    rw [Nat.mul_add, Nat.mul_one]
    omega
  apply Nat.eq_of_testBit_eq
  intro n
  rw [Nat.testBit_and, Nat.testBit_two_pow_mul, Nat.testBit_two_pow_mul, e1, Nat.testBit_two_pow_mul_add _ (by omega), Nat.testBit_two_pow_sub_one]
  by_cases l : n < k
  · rw [decide_eq_false (show ¬ n ≥ k by omega)]
    rfl
  · rw [if_neg l, decide_eq_true (show n ≥ k by omega), Bool.true_and, Bool.true_and]
    cases q : n - k with
    | zero =>
      rw [Nat.testBit_zero, Nat.testBit_zero]
      have : decide (2 * j % 2 = 1) = false := decide_eq_false (by omega)
      rw [this, Bool.and_false]
    | succ i =>
      rw [Nat.testBit_succ, Nat.testBit_succ]
      have : (2 * j + 1) / 2 = 2 * j / 2 := by omega
      rw [this, Bool.and_self]
theorem bits_low (k j : Nat) : Builtin.bitAnd ((2 ^ k * (2 * j + 1) : Nat) : Int) (-((2 ^ k * (2 * j + 1) : Nat) : Int)) = ((2 ^ k : Nat) : Int) ∧
    Builtin.bitAnd (-((2 ^ k * (2 * j + 1) : Nat) : Int)) ((2 ^ k * (2 * j + 1) : Nat) : Int) = ((2 ^ k : Nat) : Int) := by
  have p := Nat.two_pow_pos k
  generalize ha : 2 ^ k * (2 * j + 1) = a
  have a0 : 0 < a := by rw [← ha]; exact Nat.mul_pos p (by omega)
  have low : a &&& (a - 1) = 2 ^ k * (2 * j) := by rw [← ha]; exact and_pred k j
  have sub : a = 2 ^ k * (2 * j) + 2 ^ k := by rw [← ha, Nat.mul_add, Nat.mul_one]
  have h1 : decide ((0 : Int) ≤ (a : Int)) = true := decide_eq_true (Int.natCast_nonneg a)
  have h2 : decide ((0 : Int) ≤ -(a : Int)) = false := decide_eq_false (by omega)
  have h3 : (Builtin.bitNot (-(a : Int))).toNat = a - 1 := by
    show (-(-(a : Int)) - 1).toNat = a - 1
    omega
  constructor
  · unfold Builtin.bitAnd
    simp only [h1, h2]
    rw [h3, Int.toNat_natCast, low]
    omega
  · unfold Builtin.bitAnd
    simp only [h1, h2]
    rw [h3, Int.toNat_natCast, low]
    omega
theorem bits_pow (k : Nat) : Builtin.Int.intBits ((2 ^ k : Nat) : Int) = k + 1 := by
  unfold Builtin.Int.intBits
  have p := Nat.two_pow_pos k
  have ne : ¬ (((2 ^ k : Nat) : Int) == 0) = true := by
    generalize 2 ^ k = x at p ⊢
    simp
    omega
  rw [if_neg ne]
  rw [Int.natAbs_natCast, Nat.log2_two_pow]
/-- i's lowest figure is worth 2 ^ k -/
def Low (i : Int) (k : Nat) : Prop := ∃ j : Nat, i = ((2 ^ k * (2 * j + 1) : Nat) : Int) ∨ i = -((2 ^ k * (2 * j + 1) : Nat) : Int)
theorem Low.bits {i : Int} {k : Nat} (h : Low i k) : Builtin.bitAnd i (-i) = ((2 ^ k : Nat) : Int) := by
  obtain ⟨j, rfl | rfl⟩ := h
  · exact (bits_low k j).1
  · rw [Int.neg_neg]
    exact (bits_low k j).2
/-- the first number of a mask, from e on -/
theorem low_of {m e : Nat} (h : m / 2 ^ e ≠ 0) : ∃ k, Low ((m / 2 ^ e : Nat) : Int) k ∧ m.testBit (e + k) = true ∧ ∀ n, e ≤ n → n < e + k → m.testBit n = false := by
  obtain ⟨k, j, q⟩ := odd_part (m / 2 ^ e) (Nat.pos_of_ne_zero h)
  have bit : ∀ n, m.testBit (e + n) = (2 ^ k * (2 * j + 1)).testBit n := fun n => by
    rw [← q, Nat.testBit_div_two_pow, Nat.add_comm]
  refine ⟨k, ⟨j, .inl (by rw [q])⟩, ?_, fun n l u => ?_⟩
  · rw [bit, Nat.testBit_two_pow_mul, Nat.sub_self, Nat.testBit_zero, decide_eq_true (Nat.le_refl k), decide_eq_true (by omega)]
    rfl
  · obtain ⟨d, rfl⟩ := Nat.exists_eq_add_of_le l
    rw [bit, Nat.testBit_two_pow_mul, decide_eq_false (by omega)]
    rfl
/-- how far a mask's numbers go on from b -/
theorem low_not {m b : Nat} (h : m.testBit b = true) : ∃ k, 0 < k ∧ Low (Builtin.bitNot ((m / 2 ^ b : Nat) : Int)) k ∧ m.testBit (b + k) = false ∧ ∀ n, b ≤ n → n < b + k → m.testBit n = true := by
  obtain ⟨k, j, q⟩ := odd_part (m / 2 ^ b + 1) (Nat.succ_pos _)
  have p := Nat.two_pow_pos k
  have q1 : m / 2 ^ b = 2 ^ k * (2 * j) + (2 ^ k - 1) := by
    rw [Nat.mul_add, Nat.mul_one] at q
    omega
  have bit : ∀ n, m.testBit (b + n) = if n < k then true else (2 * j).testBit (n - k) := fun n => by
    rw [Nat.add_comm, ← Nat.testBit_div_two_pow, q1, Nat.testBit_two_pow_mul_add _ (by omega), Nat.testBit_two_pow_sub_one]
    split
    · rename_i l
      exact decide_eq_true l
    · rfl
  have k0 : 0 < k := by
    have := bit 0
    rw [Nat.add_zero, h] at this
    by_cases z : 0 < k
    · exact z
    · rw [if_neg z, show 0 - k = 0 by omega, Nat.testBit_zero, decide_eq_false (by omega)] at this
      cases this
  refine ⟨k, k0, ⟨j, .inr ?_⟩, ?_, fun n l u => ?_⟩
  · rw [← q]
    show -((m / 2 ^ b : Nat) : Int) - 1 = _
    omega
  · rw [bit, if_neg (Nat.lt_irrefl k), Nat.sub_self, Nat.testBit_zero]
    exact decide_eq_false (by omega)
  · obtain ⟨d, rfl⟩ := Nat.exists_eq_add_of_le l
    rw [bit, if_pos (by omega)]
theorem no_more {m e : Nat} (h : m / 2 ^ e = 0) : ∀ n, e ≤ n → m.testBit n = false := fun n l => by
  obtain ⟨d, rfl⟩ := Nat.exists_eq_add_of_le l
  rw [Nat.add_comm, ← Nat.testBit_div_two_pow, h, Nat.zero_testBit]
theorem or_masks (a b : Nat) : Builtin.bitOr (a : Int) (b : Int) = ((a ||| b : Nat) : Int) := by
  rw [bitOr_nn (Int.natCast_nonneg a) (Int.natCast_nonneg b), Int.toNat_natCast, Int.toNat_natCast]
theorem and_masks (a b : Nat) : Builtin.bitAnd (a : Int) (b : Int) = ((a &&& b : Nat) : Int) := by
  unfold Builtin.bitAnd
  simp only [decide_eq_true (Int.natCast_nonneg a), decide_eq_true (Int.natCast_nonneg b)]
  rw [Int.toNat_natCast, Int.toNat_natCast]
theorem less_masks (a b : Nat) : Builtin.bitAnd (a : Int) (Builtin.bitNot (b : Int)) = ((a - (a &&& b) : Nat) : Int) := by
  have e : Builtin.bitNot (Builtin.bitNot (b : Int)) = (b : Int) := by
    show -(-(b : Int) - 1) - 1 = b
    omega
  have n : ¬ (0 : Int) ≤ Builtin.bitNot (b : Int) := by
    show ¬ (0 : Int) ≤ -(b : Int) - 1
    omega
  unfold Builtin.bitAnd
  simp only [decide_eq_true (Int.natCast_nonneg a), decide_eq_false n]
  rw [e, Int.toNat_natCast, Int.toNat_natCast]
  have le : a &&& b ≤ a := Nat.and_le_left
  omega
theorem less_bit (n : Nat) : ∀ a b : Nat, (a - (a &&& b)).testBit n = (a.testBit n && !b.testBit n) := by
  induction n with
  | zero =>
    intro a b
    have le : a &&& b ≤ a := Nat.and_le_left
    have lo : ((a &&& b) % 2 = 1) ↔ (a % 2 = 1 ∧ b % 2 = 1) := by
      have := congrArg (fun x : Bool => x = true) (Nat.testBit_and a b 0)
      simpa [Nat.testBit_zero] using this
    rw [Nat.testBit_zero, Nat.testBit_zero, Nat.testBit_zero]
    rcases Nat.mod_two_eq_zero_or_one a with ha | ha <;> rcases Nat.mod_two_eq_zero_or_one b with hb | hb <;>
      rcases Nat.mod_two_eq_zero_or_one (a &&& b) with hc | hc <;>
      first
        | (exfalso; rw [ha, hb, hc] at lo; revert lo; decide)
        | (rw [show (a - (a &&& b)) % 2 = (a % 2 + (a &&& b) % 2) % 2 by omega, ha, hb, hc]; decide)
  | succ n ih =>
    intro a b
    have le : a &&& b ≤ a := Nat.and_le_left
    have lo : ((a &&& b) % 2 = 1) ↔ (a % 2 = 1 ∧ b % 2 = 1) := by
      have := congrArg (fun x : Bool => x = true) (Nat.testBit_and a b 0)
      simpa [Nat.testBit_zero] using this
    have hi : (a &&& b) / 2 = a / 2 &&& b / 2 := Nat.and_div_two
    have le2 : a / 2 &&& b / 2 ≤ a / 2 := Nat.and_le_left
    rw [Nat.testBit_succ, Nat.testBit_succ, Nat.testBit_succ, ← ih]
    congr 1
    omega
end LL
namespace LL
open PySem PySem.Spec PyProof.Rows L2
/-- a def of the top: where it stands and how it is called -/
structure Dn (K : PySem.W.Frag) (mg : Str → Option Value) (x : Str) (st : Stmt) (ps : List Str) where
  f : Addr
  fd : FuncData
  m : mg x = some (.ref f)
  F : Fun K x x st f fd
  b : Binds K fd ps []

theorem pcall {X : Cx} {x : Str} {st : Stmt} {ps : List Str} {sp : Sp} {j k : Nat} {e : Expr} {es : List Expr} {t : TA} {p pos : Pos}
    (D : Dn X.K X.mg x st ps) (G : FnOk X.prog X.w X.K X.mg X.base CX0 j D.f D.fd ps sp) (hr : Room k X.A) (hjk : j ≤ k)
    (hg : Gl X x) (ha : PA X (e :: es) t) (hd : (x == ("__debug__" : Str)) = false := by decide)
    (he : starEach (e :: es) X.env = (false, eval e X.env) :: starEach es X.env := by rfl)
    (hp : (backTo pos (starEach es X.env)).any (·.1) = false := by rfl) :
    PE X (.Call (.Name x p) (e :: es) [] pos) (tCall sp [] E0 t) :=
  pe_call G (hr.mono hjk) hg D.m D.F.kp D.b .nil pass0 ha hd he hp
theorem pcall0 {X : Cx} {x : Str} {st : Stmt} {ps : List Str} {sp : Sp} {j k : Nat} {p pos : Pos}
    (D : Dn X.K X.mg x st ps) (G : FnOk X.prog X.w X.K X.mg X.base CX0 j D.f D.fd ps sp) (hr : Room k X.A) (hjk : j ≤ k)
    (hg : Gl X x) (hd : (x == ("__debug__" : Str)) = false := by decide) :
    PE X (.Call (.Name x p) [] [] pos) (tCall sp [] E0 tNil) :=
  pe_call0 G (hr.mono hjk) hg D.m D.F.kp D.b .nil pass0 hd

/-- what may be asked of: None, a bool, an int, a text, a list, a tuple, a dict -/
inductive Thing (K : PySem.W.Frag) (H : Hp) : V → Prop
  | non : Thing K H .non
  | bl (b : Bool) : Thing K H (.bl b)
  | int (i : Int) : Thing K H (.int i)
  | str (z : Str) : Thing K H (.str z)
  | lst {a : Addr} (h : TyX K H (.ref a) (.type "list")) : Thing K H (.ref a)
  | tup {a : Addr} (h : TyX K H (.ref a) (.type "tuple")) : Thing K H (.ref a)
  | dct {a : Addr} (h : TyX K H (.ref a) (.type "dict")) : Thing K H (.ref a)
def isInt : V → Bool
  | .int _ => true
  | _ => false
def isIntB : V → Bool
  | .int _ => true
  | .bl _ => true
  | _ => false
def isBl : V → Bool
  | .bl _ => true
  | _ => false
def isStr : V → Bool
  | .str _ => true
  | _ => false
/-- isinstance(x, T) for such a thing -/
theorem isi_int {K : PySem.W.Frag} {H : Hp} {x : V} {Q : VK} (h : Thing K H x) (q : Q (.bl (isIntB x)) H) : rIsi K [x, .ty "int"] H Q := by
  cases h with
  | non => exact ⟨_, _, _, _, _, rfl, .ty _, .base .non, kit_ty (r := false) (by decide +kernel), q⟩
  | bl b => exact ⟨_, _, _, _, _, rfl, .ty _, .base (.bl b), kit_ty (r := true) (by decide +kernel), q⟩
  | int i => exact ⟨_, _, _, _, _, rfl, .ty _, .base (.int i), kit_ty (r := true) (by decide +kernel), q⟩
  | str z => exact ⟨_, _, _, _, _, rfl, .ty _, .base (.str z), kit_ty (r := false) (by decide +kernel), q⟩
  | lst h => exact ⟨_, _, _, _, _, rfl, .ty _, h, kit_ty (r := false) (by decide +kernel), q⟩
  | tup h => exact ⟨_, _, _, _, _, rfl, .ty _, h, kit_ty (r := false) (by decide +kernel), q⟩
  | dct h => exact ⟨_, _, _, _, _, rfl, .ty _, h, kit_ty (r := false) (by decide +kernel), q⟩
theorem isi_bool {K : PySem.W.Frag} {H : Hp} {x : V} {Q : VK} (h : Thing K H x) (q : Q (.bl (isBl x)) H) : rIsi K [x, .ty "bool"] H Q := by
  cases h with
  | non => exact ⟨_, _, _, _, _, rfl, .ty _, .base .non, kit_ty (r := false) (by decide +kernel), q⟩
  | bl b => exact ⟨_, _, _, _, _, rfl, .ty _, .base (.bl b), kit_ty (r := true) (by decide +kernel), q⟩
  | int i => exact ⟨_, _, _, _, _, rfl, .ty _, .base (.int i), kit_ty (r := false) (by decide +kernel), q⟩
  | str z => exact ⟨_, _, _, _, _, rfl, .ty _, .base (.str z), kit_ty (r := false) (by decide +kernel), q⟩
  | lst h => exact ⟨_, _, _, _, _, rfl, .ty _, h, kit_ty (r := false) (by decide +kernel), q⟩
  | tup h => exact ⟨_, _, _, _, _, rfl, .ty _, h, kit_ty (r := false) (by decide +kernel), q⟩
  | dct h => exact ⟨_, _, _, _, _, rfl, .ty _, h, kit_ty (r := false) (by decide +kernel), q⟩
theorem isi_str {K : PySem.W.Frag} {H : Hp} {x : V} {Q : VK} (h : Thing K H x) (q : Q (.bl (isStr x)) H) : rIsi K [x, .ty "str"] H Q := by
  cases h with
  | non => exact ⟨_, _, _, _, _, rfl, .ty _, .base .non, kit_ty (r := false) (by decide +kernel), q⟩
  | bl b => exact ⟨_, _, _, _, _, rfl, .ty _, .base (.bl b), kit_ty (r := false) (by decide +kernel), q⟩
  | int i => exact ⟨_, _, _, _, _, rfl, .ty _, .base (.int i), kit_ty (r := false) (by decide +kernel), q⟩
  | str z => exact ⟨_, _, _, _, _, rfl, .ty _, .base (.str z), kit_ty (r := true) (by decide +kernel), q⟩
  | lst h => exact ⟨_, _, _, _, _, rfl, .ty _, h, kit_ty (r := false) (by decide +kernel), q⟩
  | tup h => exact ⟨_, _, _, _, _, rfl, .ty _, h, kit_ty (r := false) (by decide +kernel), q⟩
  | dct h => exact ⟨_, _, _, _, _, rfl, .ty _, h, kit_ty (r := false) (by decide +kernel), q⟩

section
variable {X : Cx}
theorem call_is_int : CallR X (.builtin "isinstance") (fun xs H Q => ∃ x, xs = [x, .ty "int"] ∧ Thing X.K H x ∧ Q (.bl (isIntB x)) H) := by
  intro pins s σ H xs us Q I r ⟨x, e, th, q⟩
  subst e
  exact call_isi pins s σ H _ us Q I r (isi_int th q)
theorem call_is_bool : CallR X (.builtin "isinstance") (fun xs H Q => ∃ x, xs = [x, .ty "bool"] ∧ Thing X.K H x ∧ Q (.bl (isBl x)) H) := by
  intro pins s σ H xs us Q I r ⟨x, e, th, q⟩
  subst e
  exact call_isi pins s σ H _ us Q I r (isi_bool th q)
theorem call_is_str : CallR X (.builtin "isinstance") (fun xs H Q => ∃ x, xs = [x, .ty "str"] ∧ Thing X.K H x ∧ Q (.bl (isStr x)) H) := by
  intro pins s σ H xs us Q I r ⟨x, e, th, q⟩
  subst e
  exact call_isi pins s σ H _ us Q I r (isi_str th q)
end

/-- a def whose code object is known -/
theorem okC {P : Program} {w : World} {K : PySem.W.Frag} {mg : Str → Option Value} {base : Heap} {x : Str} {st : Stmt} {f c : Addr}
    {fd : FuncData} {N ps : List Str} {k : Nat} {sp : Sp} (F : Fun K x x st f fd) (hc : fd.code = .ref c) (S : FnScope N ps (defScope st))
    (len : ∀ vs H Q E, sp vs H Q E → vs.length = ps.length)
    (body : ∀ (A : Around) (outer : List Env) (s : Shared) (H : Hp) (vs : List V) (Q : VK) (E : XK),
      Room k (A.deeper (envOfC x (defScope st) s.heap.objs.size f (.ref c))) → sp vs H Q E →
      ∃ t, PSs (cxOf CX0 P w K mg base N x (defScope st) f (.ref c) A outer s H E).nox (defBody st) t ∧
        t { nx := fun _ H' => Q .non H', rt := Q } (start N vs) H) : FnOk P w K mg base CX0 (k + 1) f fd ps sp := by
  obtain ⟨c1, d1, k1, doc, pm, an, cd, c2, sl, rfl, look, isCode⟩ := F.ex
  have hcd : cd = .ref c := hc
  subst hcd
  exact fn_of look isCode S len fun A outer s H vs Q E room want =>
    let ⟨t, h, q⟩ := body A outer s H vs Q E room want
    ⟨t, h.nox, q⟩

/-- a def's facts, put together -/
def dn_mk {x : Str} {st : Stmt} {ps : List Str} {K : PySem.W.Frag} {h : Heap} {mg : Str → Option Value} {f : Addr} {oc : Value} {od an : Option Addr} {sl : Array (Option Value)} {kV doc pm cdv ct : Value}
    (X : K.In h) (G : h.Ns mainGlobals mg) (a : PySem.W.nsIn K mainGlobals x = some (some (.ref f)))
    (l : K.lookup f = some ⟨oc, od, .func (PySem.W.fnOf x x (defArgs st) (defBody st) (defScope st) .none kV doc pm an cdv ct), sl⟩)
    (c : PySem.W.codeIn K cdv x = true) (k : PySem.W.keepIn K (.ref f) = true)
    (b : ∀ (kV doc pm : Value) (an : Option Addr) (cdv ct : Value) (us : List Value), us.length = ps.length → bindArgs (PySem.W.fnOf x x (defArgs st) (defBody st) (defScope st) .none kV doc pm an cdv ct) ⟨us, []⟩ = pure (ps.zip us)) :
    Dn K mg x st ps := ⟨f, _, PySem.W.mg_of X G a, fun_mk l c k, (fun_mk l c k).binds b⟩
theorem own_mk {K : PySem.W.Frag} {h : Heap} {mg : Str → Option Value} {nm : Str} (own : ∀ f, mg nm = some (.ref f) → LamX.OwnTab K f h)
    {f c tb : Addr} {o : Obj} {fd : FuncData} {e : Value} {dd : Option Addr} {vs : Array Value} {sl : Array (Option Value)}
    (m : mg nm = some (.ref f)) (l0 : K.lookup f = some o) (d : o.data = .func fd) (cc : fd.code = .ref c)
    (l1 : K.lookup c = some ⟨e, dd, .fields vs, sl⟩) (v : vs[11]? = some (.ref tb)) : h.get? tb = some { cls := .none, data := .fields #[] } :=
  own f m c tb o fd e dd vs sl l0 d cc l1 v
theorem code_mk {K : PySem.W.Frag} {h : Heap} (X : K.In h) {c tb : Addr} {dd : Option Addr} {vs : Array Value} {sl : Array (Option Value)} {file : Str} {tf tg tt : Tok} {flags text : Int} {inF : Bool}
    (lk : K.lookup c = some ⟨.type "code", dd, .fields vs, sl⟩) (v : vs[11]? = some (.ref tb)) (v1 : vs.getD 11 .none = .ref tb) (v2 : vs.getD 18 .none = .str file tf)
    (v3 : vs.getD 7 .none = .int flags tg) (v4 : vs.getD 9 .none = .bool inF) (v5 : vs.getD 10 .none = .int text tt) (n : c ≠ tb) : PySem.W.CodeHd h c tb :=
  ⟨_, vs, file, tf, flags, tg, inF, text, tt, X _ _ lk, rfl, rfl, v, v1, v2, v3, v4, v5, n⟩

/-- such a def's call, where no repr is under way -/
theorem pcallG {X : Cx} {x : Str} {st : Stmt} {ps : List Str} {sp : Sp} {j k : Nat} {e : Expr} {es : List Expr} {t : TA} {p pos : Pos}
    (D : Dn X.K X.mg x st ps) (G : FnG X.prog X.w X.K X.mg X.base j D.f D.fd ps sp) (guard : X.A.guards = some []) (hr : Room k X.A) (hjk : j ≤ k)
    (hg : Gl X x) (ha : PA X (e :: es) t) (hd : (x == ("__debug__" : Str)) = false := by decide)
    (he : starEach (e :: es) X.env = (false, eval e X.env) :: starEach es X.env := by rfl)
    (hp : (backTo pos (starEach es X.env)).any (·.1) = false := by rfl) :
    PE X (.Call (.Name x p) (e :: es) [] pos) (tCall sp [] E0 t) :=
  pe_callG G guard (hr.mono hjk) hg D.m D.F.kp D.b ha hd he hp
theorem ix_listK {X : Cx} {K : PySem.W.Frag} (h : X.K = K) : IxR X (rIxL K) := by
  rw [← h]
  exact ix_list
theorem ix_tupK {X : Cx} {K : PySem.W.Frag} (h : X.K = K) : IxR X (rIxT K) := by
  rw [← h]
  exact ix_tup
/-- a value's truth, as a test -/
def tTru (K : PySem.W.Frag) (ta : TE) : TT := fun σ H Q => ta σ H fun x H' => ∃ k, TruV K x H' k ∧ Q k H'
theorem pt_tru {X : Cx} {a : Expr} {ta : TE} (ha : PE X a ta) (he : ∀ whole, isTrue a X.env whole = (do let v ← whole; standAt a.pos; holding [v] (truthy v)) := by intro _; rfl) : PT X a (tTru X.K ta) := pt_truth ha he
/-- isinstance(x, tuple) -/
inductive IsTup (K : PySem.W.Frag) (H : Hp) : V → Bool → Prop
  | non : IsTup K H .non false
  | bl (b : Bool) : IsTup K H (.bl b) false
  | int (i : Int) : IsTup K H (.int i) false
  | str (z : Str) : IsTup K H (.str z) false
  | lst {a : Addr} (h : TyX K H (.ref a) (.type "list")) : IsTup K H (.ref a) false
  | tup {a : Addr} (h : TyX K H (.ref a) (.type "tuple")) : IsTup K H (.ref a) true
  | dct {a : Addr} (h : TyX K H (.ref a) (.type "dict")) : IsTup K H (.ref a) false
theorem isi_tup {K : PySem.W.Frag} {H : Hp} {x : V} {b : Bool} {Q : VK} (h : IsTup K H x b) (q : Q (.bl b) H) : rIsi K [x, .ty "tuple"] H Q := by
  cases h with
  | non => exact ⟨_, _, _, _, _, rfl, .ty _, .base .non, kit_ty (r := false) (by decide +kernel), q⟩
  | bl b => exact ⟨_, _, _, _, _, rfl, .ty _, .base (.bl b), kit_ty (r := false) (by decide +kernel), q⟩
  | int i => exact ⟨_, _, _, _, _, rfl, .ty _, .base (.int i), kit_ty (r := false) (by decide +kernel), q⟩
  | str z => exact ⟨_, _, _, _, _, rfl, .ty _, .base (.str z), kit_ty (r := false) (by decide +kernel), q⟩
  | lst h => exact ⟨_, _, _, _, _, rfl, .ty _, h, kit_ty (r := false) (by decide +kernel), q⟩
  | tup h => exact ⟨_, _, _, _, _, rfl, .ty _, h, kit_ty (r := true) (by decide +kernel), q⟩
  | dct h => exact ⟨_, _, _, _, _, rfl, .ty _, h, kit_ty (r := false) (by decide +kernel), q⟩
/-- isinstance(x, list) -/
inductive IsLst (K : PySem.W.Frag) (H : Hp) : V → Bool → Prop
  | non : IsLst K H .non false
  | bl (b : Bool) : IsLst K H (.bl b) false
  | int (i : Int) : IsLst K H (.int i) false
  | str (z : Str) : IsLst K H (.str z) false
  | lst {a : Addr} (h : TyX K H (.ref a) (.type "list")) : IsLst K H (.ref a) true
  | tup {a : Addr} (h : TyX K H (.ref a) (.type "tuple")) : IsLst K H (.ref a) false
  | dct {a : Addr} (h : TyX K H (.ref a) (.type "dict")) : IsLst K H (.ref a) false
theorem isi_lst {K : PySem.W.Frag} {H : Hp} {x : V} {b : Bool} {Q : VK} (h : IsLst K H x b) (q : Q (.bl b) H) : rIsi K [x, .ty "list"] H Q := by
  cases h with
  | non => exact ⟨_, _, _, _, _, rfl, .ty _, .base .non, kit_ty (r := false) (by decide +kernel), q⟩
  | bl b => exact ⟨_, _, _, _, _, rfl, .ty _, .base (.bl b), kit_ty (r := false) (by decide +kernel), q⟩
  | int i => exact ⟨_, _, _, _, _, rfl, .ty _, .base (.int i), kit_ty (r := false) (by decide +kernel), q⟩
  | str z => exact ⟨_, _, _, _, _, rfl, .ty _, .base (.str z), kit_ty (r := false) (by decide +kernel), q⟩
  | lst h => exact ⟨_, _, _, _, _, rfl, .ty _, h, kit_ty (r := true) (by decide +kernel), q⟩
  | tup h => exact ⟨_, _, _, _, _, rfl, .ty _, h, kit_ty (r := false) (by decide +kernel), q⟩
  | dct h => exact ⟨_, _, _, _, _, rfl, .ty _, h, kit_ty (r := false) (by decide +kernel), q⟩
section
variable {X : Cx}
theorem call_is_tuple : CallR X (.builtin "isinstance") (fun xs H Q => ∃ x b, xs = [x, .ty "tuple"] ∧ IsTup X.K H x b ∧ Q (.bl b) H) := by
  intro pins s σ H xs us Q I r ⟨x, b, e, th, q⟩
  subst e
  exact call_isi pins s σ H _ us Q I r (isi_tup th q)
theorem call_is_list : CallR X (.builtin "isinstance") (fun xs H Q => ∃ x b, xs = [x, .ty "list"] ∧ IsLst X.K H x b ∧ Q (.bl b) H) := by
  intro pins s σ H xs us Q I r ⟨x, b, e, th, q⟩
  subst e
  exact call_isi pins s σ H _ us Q I r (isi_lst th q)
theorem tyX_l {K : PySem.W.Frag} {H : Hp} {a : Addr} {xs : List V} (h : H a = some (.lst xs)) : TyX K H (.ref a) (.type "list") := .base (.lst h)
theorem tyX_t {K : PySem.W.Frag} {H : Hp} {a : Addr} {xs : List V} (h : H a = some (.tup xs)) : TyX K H (.ref a) (.type "tuple") := .base (.tup h)
end
/-! ### what is kept -/
/-- all that stood is kept, but the table at P -/
structure Nw (P : Addr) (H H' : Hp) : Prop where
  was : GxR.TabG H P
  tab : GxR.TabG H' P
  old : ∀ b o, b ≠ P → H b = some o → H' b = some o
theorem Nw.refl {P : Addr} {H : Hp} (h : GxR.TabG H P) : Nw P H H := ⟨h, h, fun _ _ _ e => e⟩
theorem Nw.trans {P : Addr} {H H1 H2 : Hp} (x : Nw P H H1) (y : Nw P H1 H2) : Nw P H H2 := ⟨x.was, y.tab, fun b o n e => y.old b o n (x.old b o n e)⟩
theorem Nw.of {P : Addr} {H H' : Hp} (h : GxR.TabG H P) (t : GxR.Tabbed P H H') : Nw P H H' := ⟨h, t.1, fun b o n e => by rw [t.2 b n]; exact e⟩
theorem tab_ne {P a : Addr} {H : Hp} {o : HO} (h : GxR.TabG H P) (e : H a = some o) (n : ∀ q, o ≠ .tbl q) : a ≠ P := fun z => by
  obtain ⟨ps, e2, _⟩ := h
  rw [z, e2] at e
  exact n ps (Option.some.inj e).symm
theorem tab_free {P a : Addr} {H : Hp} (h : GxR.TabG H P) (e : H a = none) : P ≠ a := fun z => by
  obtain ⟨ps, e2, _⟩ := h
  rw [z, e] at e2
  cases e2
theorem tab_upd {P a : Addr} {H : Hp} {o : HO} (h : GxR.TabG H P) (n : P ≠ a) : GxR.TabG (upd H a o) P := by
  obtain ⟨ps, e2, t⟩ := h
  exact ⟨ps, by rw [upd_ne n]; exact e2, t⟩
/-- a new object more -/
theorem Nw.new {P p : Addr} {H H1 : Hp} {u : HO} (x : Nw P H H1) (hp : H1 p = none) : Nw P H (L2.upd H1 p u) :=
  ⟨x.was, tab_upd x.tab (tab_free x.tab hp), fun c v n q => by rw [upd_ne (ne_of_none (x.old c v n q) hp)]; exact x.old c v n q⟩
/-- an object that is new since H is changed -/
theorem Nw.put {P p : Addr} {H H1 : Hp} {u o : HO} (x : Nw P H H1) (hp : H p = none) (ho : H1 p = some o) (n : ∀ q, o ≠ .tbl q) : Nw P H (L2.upd H1 p u) :=
  ⟨x.was, tab_upd x.tab (fun z => tab_ne x.tab ho n z.symm), fun c v m q => by rw [upd_ne (ne_of_none q hp)]; exact x.old c v m q⟩
theorem Nw.lst {P a : Addr} {H H' : Hp} {xs : List V} (x : Nw P H H') (e : H a = some (.lst xs)) : H' a = some (.lst xs) := x.old _ _ (tab_ne x.was e (fun q z => by cases z)) e
theorem Nw.tup {P a : Addr} {H H' : Hp} {xs : List V} (x : Nw P H H') (e : H a = some (.tup xs)) : H' a = some (.tup xs) := x.old _ _ (tab_ne x.was e (fun q z => by cases z)) e
theorem Nw.free {P a : Addr} {H H' : Hp} (x : Nw P H H') (e : H' a = none) : H a = none := by
  cases q : H a with
  | none => rfl
  | some o =>
    by_cases z : a = P
    · obtain ⟨ps, e2, _⟩ := x.tab
      rw [z, e2] at e
      cases e
    · rw [x.old _ _ z q] at e
      cases e
/-- what is no table is kept -/
def Keep (H H' : Hp) : Prop := ∀ b o, (∀ q, o ≠ .tbl q) → H b = some o → H' b = some o
theorem Nw.keep {P : Addr} {H H' : Hp} (x : Nw P H H') : Keep H H' := fun b o n e => x.old b o (tab_ne x.was e n) e
theorem tyOf_keep {K : PySem.W.Frag} {H H' : Hp} {x : V} {t : Value} (k : Keep H H') (h : TyOf K H x t) : TyOf K H' x t := by
  cases h with
  | non => exact .non
  | bl b => exact .bl b
  | int i => exact .int i
  | str z => exact .str z
  | flt z => exact .flt z
  | lst e => exact .lst (k _ _ (fun q z => by cases z) e)
  | frz e => exact .frz (k _ _ (fun q z => by cases z) e)
  | tup e => exact .tup (k _ _ (fun q z => by cases z) e)
  | dK e => exact .dK (k _ _ (fun q z => by cases z) e)
  | dT e => exact .dT (k _ _ (fun q z => by cases z) e)
  | ins e a b c d f => exact .ins (k _ _ (fun q z => by cases z) e) a b c d f
theorem tyX_keep {K : PySem.W.Frag} {H H' : Hp} {x : V} {t : Value} (k : Keep H H') (h : TyX K H x t) : TyX K H' x t := by
  cases h with
  | base h => exact .base (tyOf_keep k h)
  | byt b => exact .byt b
  | set e => exact .set (k _ _ (fun q z => by cases z) e)
  | kList e c => exact .kList e c
  | kTuple e c => exact .kTuple e c
  | kDict e c => exact .kDict e c
  | fTuple e => exact .fTuple (k _ _ (fun q z => by cases z) e)
  | fDict e => exact .fDict (k _ _ (fun q z => by cases z) e)
theorem Thing.keep {K : PySem.W.Frag} {H H' : Hp} {x : V} (k : Keep H H') (h : Thing K H x) : Thing K H' x := by
  cases h with
  | non => exact .non
  | bl b => exact .bl b
  | int i => exact .int i
  | str z => exact .str z
  | lst h => exact .lst (tyX_keep k h)
  | tup h => exact .tup (tyX_keep k h)
  | dct h => exact .dct (tyX_keep k h)
theorem IsTup.keep {K : PySem.W.Frag} {H H' : Hp} {x : V} {b : Bool} (k : Keep H H') (h : IsTup K H x b) : IsTup K H' x b := by
  cases h with
  | non => exact .non
  | bl b => exact .bl b
  | int i => exact .int i
  | str z => exact .str z
  | lst h => exact .lst (tyX_keep k h)
  | tup h => exact .tup (tyX_keep k h)
  | dct h => exact .dct (tyX_keep k h)
theorem IsLst.keep {K : PySem.W.Frag} {H H' : Hp} {x : V} {b : Bool} (k : Keep H H') (h : IsLst K H x b) : IsLst K H' x b := by
  cases h with
  | non => exact .non
  | bl b => exact .bl b
  | int i => exact .int i
  | str z => exact .str z
  | lst h => exact .lst (tyX_keep k h)
  | tup h => exact .tup (tyX_keep k h)
  | dct h => exact .dct (tyX_keep k h)
/-! ### a row of stretches in the heap -/
inductive PrsAt (H : Hp) : List Addr → List Pr → Prop
  | nil : PrsAt H [] []
  | cons {q : Addr} {qs : List Addr} {z : Pr} {r : List Pr} (h : H q = some (.tup [.int (z.1 : Int), .int (z.2 : Int)])) (t : PrsAt H qs r) : PrsAt H (q :: qs) (z :: r)
theorem PrsAt.len {H : Hp} {qs : List Addr} {r : List Pr} (h : PrsAt H qs r) : qs.length = r.length := by
  induction h with
  | nil => rfl
  | cons _ _ ih => rw [List.length_cons, List.length_cons, ih]
theorem PrsAt.app {H : Hp} {qs ps : List Addr} {r q : List Pr} (h : PrsAt H qs r) (g : PrsAt H ps q) : PrsAt H (qs ++ ps) (r ++ q) := by
  induction h with
  | nil => exact g
  | cons a _ ih => exact .cons a ih
theorem PrsAt.get {H : Hp} {qs : List Addr} {r : List Pr} (h : PrsAt H qs r) {i : Nat} {q : Addr} (e : qs[i]? = some q) : ∃ z, r[i]? = some z ∧ H q = some (.tup [.int (z.1 : Int), .int (z.2 : Int)]) := by
  induction h generalizing i with
  | nil => cases e
  | cons a _ ih =>
    cases i with
    | zero =>
      cases e
      exact ⟨_, rfl, a⟩
    | succ i => exact ih e
theorem PrsAt.put {H H' : Hp} {qs : List Addr} {r : List Pr} (h : PrsAt H qs r) (k : ∀ q xs, H q = some (.tup xs) → H' q = some (.tup xs)) : PrsAt H' qs r := by
  induction h with
  | nil => exact .nil
  | cons a _ ih => exact .cons (k _ _ a) ih
/-- at a stands a list of these stretches -/
def RowAt (H : Hp) (a : Addr) (r : List Pr) : Prop := ∃ qs : List Addr, H a = some (.lst (qs.map V.ref)) ∧ PrsAt H qs r
theorem RowAt.nw {P a : Addr} {H H' : Hp} {r : List Pr} (h : RowAt H a r) (x : Nw P H H') : RowAt H' a r := by
  obtain ⟨qs, e, p⟩ := h
  exact ⟨qs, x.lst e, p.put fun q xs e => x.tup e⟩
theorem RowAt.ne {P a : Addr} {H : Hp} {r : List Pr} (h : RowAt H a r) (t : GxR.TabG H P) : a ≠ P := by
  obtain ⟨qs, e, p⟩ := h
  exact tab_ne t e (fun q z => by cases z)
def prDat (z : Pr) : PyData := .tuple [.int (z.1 : Int), .int (z.2 : Int)]
def rowDat (r : List Pr) : PyData := .list (r.map prDat)
theorem PrsAt.dp {K : PySem.W.Frag} {H : Hp} {qs : List Addr} {r : List Pr} (h : PrsAt H qs r) : DpAll K H (qs.map V.ref) (r.map prDat) := by
  induction h with
  | nil => exact .nil
  | cons a _ ih => exact .cons (.tup (SqT.of a) (.cons (.int _) (.cons (.int _) .nil))) ih
theorem RowAt.dp {K : PySem.W.Frag} {H : Hp} {a : Addr} {r : List Pr} (h : RowAt H a r) : Dp K H (.ref a) (rowDat r) := by
  obtain ⟨qs, e, p⟩ := h
  exact .lst (SqL.of e) p.dp
end LL
namespace LL
open PySem PySem.Spec PyProof.Rows L2
def within : V → Int → Int → Bool
  | .int i, lo, hi => decide (lo ≤ i) && decide (i ≤ hi)
  | _, _, _ => false
def spanV : V → V → Nat → Bool
  | .int b, z, most => within (.int b) 0 most && within z (b + 1) most
  | _, _, _ => false
/-- whether a thing is a stretch -/
inductive StB (K : PySem.W.Frag) (H : Hp) : V → Bool → Prop
  | other {x : V} (h : IsTup K H x false) : StB K H x false
  | wrong {q : Addr} {xs : List V} (h : H q = some (.tup xs)) (n : xs.length ≠ 2) : StB K H (.ref q) false
  | pair {q : Addr} {y z : V} (h : H q = some (.tup [y, z])) (ty : Thing K H y) (tz : Thing K H z) : StB K H (.ref q) (spanV y z 400)
theorem atT0 (x : V) (xs : List V) : atI (x :: xs) 0 = some x := atI_nat (j := 0) rfl
theorem atT1 (x y : V) (xs : List V) : atI (x :: y :: xs) 1 = some y := atI_nat (j := 1) rfl
/-! ### rows as data -/
theorem prDat_eqv (z w : Pr) : PyData.eqv (prDat z) (prDat w) = decide (z = w) := by
  obtain ⟨a, b⟩ := z
  obtain ⟨a', b'⟩ := w
  have e : PyData.eqv (prDat (a, b)) (prDat (a', b')) = (((a : Int) == (a' : Int)) && (((b : Int) == (b' : Int)) && true)) := by simp only [prDat, PyData.eqv, PyData.eqvAll]
  rw [e]
  by_cases h : ((a, b) : Pr) = (a', b')
  · cases h
    simp
  · rw [decide_eq_false h]
    by_cases h1 : a = a'
    · by_cases h2 : b = b'
      · exact absurd (by rw [h1, h2]) h
      · have q : ((b : Int) == (b' : Int)) = false := beq_eq_false_iff_ne.mpr (by omega)
        rw [q, Bool.false_and, Bool.and_false]
    · have q : ((a : Int) == (a' : Int)) = false := beq_eq_false_iff_ne.mpr (by omega)
      rw [q, Bool.false_and]
theorem prDats_eqv : ∀ r q : List Pr, PyData.eqvAll (r.map prDat) (q.map prDat) = decide (r = q)
  | [], [] => by simp [PyData.eqvAll]
  | [], _ :: _ => by simp [PyData.eqvAll]
  | _ :: _, [] => by simp [PyData.eqvAll]
  | z :: r, w :: q => by
    have ih := prDats_eqv r q
    simp only [List.map_cons, PyData.eqvAll]
    rw [ih, prDat_eqv, Bool.eq_iff_iff]
    simp
theorem rowDat_eqv (r q : List Pr) : PyData.eqv (rowDat r) (rowDat q) = decide (r = q) := by
  simp only [rowDat, PyData.eqv]
  exact prDats_eqv r q
theorem prDats_lay : ∀ r : List Pr, PyData.canLayAll0 (r.map prDat) = true
  | [] => by simp [PyData.canLayAll0]
  | z :: r => by simp [PyData.canLayAll0, PyData.canLay0, prDat, prDats_lay r]
theorem prDats_depth : ∀ r : List Pr, PyData.depthAll (r.map prDat) ≤ 1
  | [] => by simp [PyData.depthAll]
  | z :: r => by
    have h1 := prDats_depth r
    simp only [List.map_cons, PyData.depthAll, prDat, PyData.depth]
    omega
theorem rowDat_shaped (r : List Pr) : SeqAt.shaped (rowDat r) = true := by
  have h1 := prDats_depth r
  have h2 : PyData.depth (rowDat r) ≤ 64 := by
    simp only [rowDat, PyData.depth]
    omega
  show (PyData.canLay0 (rowDat r) && decide (PyData.depth (rowDat r) ≤ 64)) = true
  rw [Bool.and_eq_true]
  exact ⟨by simp only [rowDat, PyData.canLay0]; exact prDats_lay r, decide_eq_true h2⟩
/-- all items of a row are stretches -/
theorem spanV_pr {z : Pr} (h : z.1 < z.2 ∧ z.2 ≤ 400) : spanV (.int (z.1 : Int)) (.int (z.2 : Int)) 400 = true := by
  simp only [spanV, within, Bool.and_eq_true, decide_eq_true_eq]
  omega
inductive StBs (K : PySem.W.Frag) (H : Hp) : List V → List Bool → Prop
  | nil : StBs K H [] []
  | cons {x : V} {b : Bool} {xs : List V} {bs : List Bool} (h : StB K H x b) (t : StBs K H xs bs) : StBs K H (x :: xs) (b :: bs)
theorem StBs.get {K : PySem.W.Frag} {H : Hp} {xs : List V} {bs : List Bool} (h : StBs K H xs bs) {i : Nat} {x : V} (e : xs[i]? = some x) : ∃ b, bs[i]? = some b ∧ StB K H x b := by
  induction h generalizing i with
  | nil => cases e
  | cons a _ ih =>
    cases i with
    | zero =>
      cases e
      exact ⟨_, rfl, a⟩
    | succ i => exact ih e
theorem StBs.len {K : PySem.W.Frag} {H : Hp} {xs : List V} {bs : List Bool} (h : StBs K H xs bs) : xs.length = bs.length := by
  induction h with
  | nil => rfl
  | cons _ _ ih => rw [List.length_cons, List.length_cons, ih]
theorem StB.pr {K : PySem.W.Frag} {H : Hp} {q : Addr} {z : Pr} (h : H q = some (.tup [.int (z.1 : Int), .int (z.2 : Int)])) (v : z.1 < z.2 ∧ z.2 ≤ 400) : StB K H (.ref q) true := by
  have x := StB.pair (K := K) h (.int _) (.int _)
  rw [spanV_pr v] at x
  exact x
theorem PrsAt.sts {K : PySem.W.Frag} {H : Hp} {qs : List Addr} {r : List Pr} (h : PrsAt H qs r) (v : Valid r) : StBs K H (qs.map V.ref) (r.map fun _ => true) := by
  induction h with
  | nil => exact .nil
  | cons a _ ih => exact .cons (StB.pr a (v _ List.mem_cons_self)) (ih fun z hz => v z (List.mem_cons_of_mem _ hz))
/-- a thing that is asked whether it is a tidy row -/
inductive RunsB (K : PySem.W.Frag) (H : Hp) : V → Bool → Prop
  | other {x : V} (h : IsLst K H x false) : RunsB K H x false
  | wrong {a : Addr} {xs : List V} {bs : List Bool} (h : H a = some (.lst xs)) (s : StBs K H xs bs) (n : bs.all id = false) : RunsB K H (.ref a) false
  | row {a : Addr} {r : List Pr} (h : RowAt H a r) (v : Valid r) : RunsB K H (.ref a) (decide (Tidy r))
theorem StB.keep {K : PySem.W.Frag} {H H' : Hp} {x : V} {b : Bool} (k : Keep H H') (h : StB K H x b) : StB K H' x b := by
  cases h with
  | other h => exact .other (h.keep k)
  | wrong h e => exact .wrong (k _ _ (fun q z => by cases z) h) e
  | pair h a b => exact .pair (k _ _ (fun q z => by cases z) h) (a.keep k) (b.keep k)
theorem StBs.keep {K : PySem.W.Frag} {H H' : Hp} {xs : List V} {bs : List Bool} (k : Keep H H') (h : StBs K H xs bs) : StBs K H' xs bs := by
  induction h with
  | nil => exact .nil
  | cons a _ ih => exact .cons (a.keep k) ih
theorem RowAt.keep {a : Addr} {H H' : Hp} {r : List Pr} (k : Keep H H') (h : RowAt H a r) : RowAt H' a r := by
  obtain ⟨qs, e, p⟩ := h
  exact ⟨qs, k _ _ (fun q z => by cases z) e, p.put fun q xs e => k _ _ (fun q z => by cases z) e⟩
theorem PrsAt.snoc {H : Hp} : ∀ {qs : List Addr} {r : List Pr} {z : Pr}, PrsAt H qs (r ++ [z]) → ∃ ps q, qs = ps ++ [q] ∧ PrsAt H ps r ∧ H q = some (.tup [.int (z.1 : Int), .int (z.2 : Int)])
  | [], [], _, h => nomatch h
  | [], _ :: _, _, h => nomatch h
  | q :: qs, [], z, h => by
    cases h with
    | cons a t =>
      cases t
      exact ⟨[], q, rfl, .nil, a⟩
  | q :: qs, y :: r, z, h => by
    cases h with
    | cons a t =>
      obtain ⟨ps, q', rfl, p, e⟩ := PrsAt.snoc t
      exact ⟨q :: ps, q', rfl, .cons a p, e⟩
theorem has_below {r : List Pr} {i : Nat} (v : Valid r) (h : ∀ n, has r n = true → n < i) : ∀ z ∈ r, z.2 ≤ i := fun z hz => by
  obtain ⟨a, b⟩ := v z hz
  have : has r (z.2 - 1) = true := List.any_eq_true.mpr ⟨z, hz, by rw [decide_eq_true (show z.1 ≤ z.2 - 1 by omega), decide_eq_true (show z.2 - 1 < z.2 by omega)]; rfl⟩
  have := h _ this
  omega
theorem snoc_of {r : List Pr} (h : r ≠ []) : ∃ q z, r = q ++ [z] := ⟨r.dropLast, r.getLast h, (List.dropLast_concat_getLast h).symm⟩
theorem TidyFrom.last : ∀ {r : List Pr} {b : Nat} {z y : Pr}, TidyFrom b (r ++ [z]) → y ∈ r ++ [z] → y.2 ≤ z.2
  | [], _, z, y, _, h => by
    rw [List.mem_singleton.mp h]
    exact Nat.le_refl _
  | w :: r, b, z, y, ⟨h1, h2, h3, h4⟩, h => by
    rcases List.mem_cons.mp h with rfl | h
    · obtain ⟨v1, _⟩ := h4.valid z (List.mem_append_right _ List.mem_cons_self)
      have : has (r ++ [z]) z.1 = true := by rw [has_app, has_cons, decide_eq_true (Nat.le_refl _), decide_eq_true v1]; simp
      have := (h4.low this).1
      omega
    · exact TidyFrom.last (r := r) h4 h
end LL
namespace LL
open PySem PySem.Spec PyProof.Rows L2
/-- a law's box: what is left of the cell, its rest, a count -/
def BoxO (o : HO) : Prop := ∃ x b c : Int, o = .lst [.int x, .int b, .int c] ∧ 0 ≤ x ∧ 0 ≤ b ∧ b < 4294967296
/-- the box at a may have changed, the rest is kept -/
structure Kept (a : Addr) (H H' : Hp) : Prop where
  box : ∃ o, H' a = some o ∧ BoxO o
  old : ∀ b o, b ≠ a → H b = some o → H' b = some o
theorem Kept.upd {a : Addr} {H : Hp} {o : HO} (h : BoxO o) : Kept a H (upd H a o) := ⟨⟨o, upd_same, h⟩, fun b _ n e => by rw [upd_ne n]; exact e⟩
theorem Kept.trans {a : Addr} {H H1 H2 : Hp} (x : Kept a H H1) (y : Kept a H1 H2) : Kept a H H2 := ⟨y.box, fun b o n e => y.old b o n (x.old b o n e)⟩
theorem Kept.refl {a : Addr} {H : Hp} (h : ∃ o, H a = some o ∧ BoxO o) : Kept a H H := ⟨h, fun _ _ _ e => e⟩
/-- a new object more -/
theorem Kept.new {a p : Addr} {H H1 : Hp} {u : HO} (x : Kept a H H1) (hp : H1 p = none) : Kept a H (L2.upd H1 p u) := by
  obtain ⟨⟨o, e, b⟩, old⟩ := x
  exact ⟨⟨o, by rw [upd_ne (ne_of_none e hp)]; exact e, b⟩, fun c v n q => by rw [upd_ne (ne_of_none (old c v n q) hp)]; exact old c v n q⟩
theorem at0 (x y z : V) : atI [x, y, z] 0 = some x := atI_nat (j := 0) rfl
theorem at1 (x y z : V) : atI [x, y, z] 1 = some y := atI_nat (j := 1) rfl
theorem at2 (x y z : V) : atI [x, y, z] 2 = some z := atI_nat (j := 2) rfl
theorem Kept.tab {a P : Addr} {H H' : Hp} (x : Kept a H H') (b : ∃ o, H a = some o ∧ BoxO o) (t : GxR.TabG H P) : GxR.TabG H' P := by
  obtain ⟨o, e, x0, y0, z0, rfl, _⟩ := b
  obtain ⟨ps, e2, t2⟩ := t
  exact ⟨ps, x.old P _ (fun z => by rw [z, e] at e2; cases e2) e2, t2⟩
/-- a box that is new since H0 -/
theorem Nw.kept {a P : Addr} {H0 H H' : Hp} (n : Nw P H0 H) (h : H0 a = none) (b : ∃ o, H a = some o ∧ BoxO o) (x : Kept a H H') : Nw P H0 H' :=
  ⟨n.was, x.tab b n.tab, fun c o m e => x.old c o (fun z => by rw [z, h] at e; cases e) (n.old c o m e)⟩
theorem RowAt.kept {a b : Addr} {H H' : Hp} {r : List Pr} (h : RowAt H b r) (bx : ∃ o, H a = some o ∧ BoxO o) (x : Kept a H H') : RowAt H' b r := by
  obtain ⟨o, e, x0, y0, z0, rfl, _⟩ := bx
  obtain ⟨qs, e1, p⟩ := h
  refine ⟨qs, x.old b _ (fun z => ?_) e1, p.put fun q xs e2 => x.old q _ (fun z => by rw [z, e] at e2; cases e2) e2⟩
  rw [z, e] at e1
  have := congrArg (fun u : Option HO => match u with | some (.lst (v :: _)) => some v | _ => none) e1
  cases qs with
  | nil => cases this
  | cons q qs => cases this
/-- nothing that stood is changed -/
def Exd (H H' : Hp) : Prop := ∀ b o, H b = some o → H' b = some o
theorem Exd.refl (H : Hp) : Exd H H := fun _ _ e => e
theorem Exd.trans {H H1 H2 : Hp} (x : Exd H H1) (y : Exd H1 H2) : Exd H H2 := fun b o e => y b o (x b o e)
theorem Exd.new {p : Addr} {H H1 : Hp} {u : HO} (x : Exd H H1) (hp : H1 p = none) : Exd H (L2.upd H1 p u) := fun b o e => by
  rw [upd_ne (ne_of_none (x b o e) hp)]
  exact x b o e
theorem Exd.put {p : Addr} {H H1 : Hp} {u : HO} (x : Exd H H1) (hp : H p = none) : Exd H (L2.upd H1 p u) := fun b o e => by
  rw [upd_ne (ne_of_none e hp)]
  exact x b o e
theorem Exd.nw {P : Addr} {H H' : Hp} (x : Exd H H') (t : GxR.TabG H P) : Nw P H H' := by
  obtain ⟨ps, e, t2⟩ := id t
  exact ⟨t, ⟨ps, x P _ e, t2⟩, fun b o _ e => x b o e⟩
theorem Exd.row {a : Addr} {H H' : Hp} {r : List Pr} (x : Exd H H') (h : RowAt H a r) : RowAt H' a r := h.keep fun b o _ e => x b o e
theorem Exd.kept {a : Addr} {H H' : Hp} (x : Exd H H') (b : ∃ o, H a = some o ∧ BoxO o) : Kept a H H' := by
  obtain ⟨o, e, bo⟩ := b
  exact ⟨⟨o, x a o e, bo⟩, fun c u _ q => x c u q⟩
theorem Exd.free {a : Addr} {H H' : Hp} (x : Exd H H') (e : H' a = none) : H a = none := by
  cases q : H a with
  | none => rfl
  | some o =>
    rw [x a o q] at e
    cases e
theorem Kept.free {a b : Addr} {H H' : Hp} (x : Kept a H H') (e : H' b = none) : H b = none := by
  cases q : H b with
  | none => rfl
  | some o =>
    by_cases z : b = a
    · obtain ⟨o', e', _⟩ := x.box
      rw [z, e'] at e
      cases e
    · rw [x.old b o z q] at e
      cases e
/-! ### four hundred marks -/
def marks (S : Nat → Bool) : List V := (List.range 400).map fun n => V.bl (S n)
theorem marks_len (S : Nat → Bool) : (marks S).length = 400 := by unfold marks; rw [List.length_map, List.length_range]
theorem marks_get (S : Nat → Bool) {n : Nat} (h : n < 400) : (marks S)[n]? = some (.bl (S n)) := by
  unfold marks
  rw [List.getElem?_map, List.getElem?_range h]
  rfl
theorem marks_at (S : Nat → Bool) {n : Nat} (h : n < 400) : atI (marks S) (n : Int) = some (.bl (S n)) := atI_nat (marks_get S h)
theorem flat_rep (n : Nat) (x : V) : (List.replicate n [x]).flatten = List.replicate n x := by
  induction n with
  | zero => rfl
  | succ n ih => rw [List.replicate_succ, List.flatten_cons, ih]; rfl
theorem marks_none : (List.replicate (400 : Int).toNat [V.bl false]).flatten = marks fun _ => false := by
  rw [flat_rep]
  unfold marks
  rw [List.map_const', List.length_range]
  rfl
theorem marks_set (S : Nat → Bool) (n : Nat) : (marks S).set n (V.bl true) = marks fun i => S i || decide (i = n) := by
  apply List.ext_getElem?
  intro i
  by_cases l : i < 400
  · rw [marks_get _ l, List.getElem?_set]
    by_cases e : n = i
    · subst e
      rw [if_pos rfl, if_pos (by rw [marks_len]; exact l), decide_eq_true rfl, Bool.or_true]
    · rw [if_neg e, marks_get _ l, decide_eq_false (fun z => e z.symm), Bool.or_false]
  · rw [List.getElem?_eq_none (by rw [List.length_set, marks_len]; omega), List.getElem?_eq_none (by rw [marks_len]; omega)]
theorem marks_ext {S T : Nat → Bool} (h : ∀ n, n < 400 → S n = T n) : marks S = marks T := by
  apply List.ext_getElem?
  intro i
  by_cases l : i < 400
  · rw [marks_get _ l, marks_get _ l, h i l]
  · rw [List.getElem?_eq_none (by rw [marks_len]; omega), List.getElem?_eq_none (by rw [marks_len]; omega)]
theorem marks_snoc (S : Nat → Bool) (n : Nat) : ((List.range (n + 1)).map fun i => V.bl (S i)) = ((List.range n).map fun i => V.bl (S i)) ++ [.bl (S n)] := by
  rw [List.range_succ, List.map_append]
  rfl
end LL
namespace LL
open PySem PySem.Spec PyProof.Rows L2
/-! ### what repr asks of data -/
/-- data of at most W bits and places, its whole numbers short -/
structure Sm (d : PyData) (k W : Nat) : Prop where
  lay : d.canLay0 = true
  sh : d.showable = true
  shrt : d.intsShort 13 = true
  dep : d.depth ≤ k
  wt : d.weight ≤ W
structure SmAll (ds : List PyData) (k W : Nat) : Prop where
  lay : PyData.canLayAll0 ds = true
  sh : PyData.showableAll ds = true
  shrt : PyData.intsShortAll 13 ds = true
  dep : PyData.depthAll ds ≤ k
  wt : PyData.weightAll ds ≤ W
theorem smAll_nil : SmAll [] 0 0 := ⟨rfl, rfl, rfl, Nat.le_refl _, Nat.le_refl _⟩
theorem SmAll.cons {d : PyData} {ds : List PyData} {k l W U : Nat} (h : Sm d k W) (t : SmAll ds l U) : SmAll (d :: ds) (max k l) (W + 1 + U) := by
  refine ⟨?_, ?_, ?_, ?_, ?_⟩
  · simp only [PyData.canLayAll0, h.lay, t.lay, Bool.and_self]
  · simp only [PyData.showableAll, h.sh, t.sh, Bool.and_self]
  · simp only [PyData.intsShortAll, h.shrt, t.shrt, Bool.and_self]
  · simp only [PyData.depthAll]
    have := h.dep
    have := t.dep
    omega
  · simp only [PyData.weightAll]
    have := h.wt
    have := t.wt
    omega
theorem SmAll.list {ds : List PyData} {k W : Nat} (t : SmAll ds k W) : Sm (.list ds) (k + 1) W :=
  ⟨by simp only [PyData.canLay0]; exact t.lay, by simp only [PyData.showable]; exact t.sh, by simp only [PyData.intsShort]; exact t.shrt, by simp only [PyData.depth]; have := t.dep; omega, by simp only [PyData.weight]; exact t.wt⟩
theorem SmAll.tuple {ds : List PyData} {k W : Nat} (t : SmAll ds k W) : Sm (.tuple ds) (k + 1) W :=
  ⟨by simp only [PyData.canLay0]; exact t.lay, by simp only [PyData.showable]; exact t.sh, by simp only [PyData.intsShort]; exact t.shrt, by simp only [PyData.depth]; have := t.dep; omega, by simp only [PyData.weight]; exact t.wt⟩
theorem Sm.mono {d : PyData} {k l W U : Nat} (h : Sm d k W) (a : k ≤ l) (b : W ≤ U) : Sm d l U := ⟨h.lay, h.sh, h.shrt, Nat.le_trans h.dep a, Nat.le_trans h.wt b⟩
theorem SmAll.mono {d : List PyData} {k l W U : Nat} (h : SmAll d k W) (a : k ≤ l) (b : W ≤ U) : SmAll d l U := ⟨h.lay, h.sh, h.shrt, Nat.le_trans h.dep a, Nat.le_trans h.wt b⟩
theorem smAll_of {ds : List PyData} {k W : Nat} (h : ∀ d ∈ ds, Sm d k W) : SmAll ds k ((W + 1) * ds.length) := by
  induction ds with
  | nil => exact smAll_nil.mono (Nat.zero_le _) (Nat.zero_le _)
  | cons d ds ih =>
    refine ((h d List.mem_cons_self).mono (Nat.le_refl _) (Nat.le_refl _) |> fun x => SmAll.cons x (ih fun y hy => h y (List.mem_cons_of_mem _ hy))).mono (by omega) ?_
    rw [List.length_cons, Nat.mul_succ]
    omega
theorem short_nat : ∀ n : Nat, n < 1001 → (PyData.shown (.int (n : Int))).length ≤ 13 := by decide +kernel
theorem bits_nat : ∀ n : Nat, n < 1001 → (PyData.weight (.int (n : Int))) ≤ 10 ∧ ((n : Int)).natAbs.log2 < 1920 := by decide +kernel
theorem sm_nat {n : Nat} (h : n ≤ 1000) : Sm (.int (n : Int)) 0 10 :=
  ⟨by simp only [PyData.canLay0], by simp only [PyData.showable]; exact decide_eq_true (bits_nat n (by omega)).2, by simp only [PyData.intsShort]; exact decide_eq_true (short_nat n (by omega)), by simp only [PyData.depth]; exact Nat.le_refl _, (bits_nat n (by omega)).1⟩
theorem sm_pr {z : Pr} (h : z.1 < z.2 ∧ z.2 ≤ 400) : Sm (prDat z) 1 22 :=
  (((sm_nat (by omega)).mono (Nat.le_refl _) (Nat.le_refl _) |> fun a => SmAll.cons a (SmAll.cons (sm_nat (n := z.2) (by omega)) smAll_nil)).tuple).mono (by decide) (by decide)
theorem sm_row {r : List Pr} (v : Valid r) (l : r.length ≤ 400) : Sm (rowDat r) 2 9200 := by
  have := (smAll_of (ds := r.map prDat) (k := 1) (W := 22) fun d hd => by
    obtain ⟨z, hz, rfl⟩ := List.mem_map.mp hd
    exact sm_pr (v z hz)).list
  refine this.mono (by decide) ?_
  rw [List.length_map]
  omega
theorem Sm.rep {d : PyData} {k W : Nat} (h : Sm d k W) (hk : k ≤ 60) (hW : W ≤ 1048576) : d.showable = true ∧ d.hasDict = false ∧ d.depth ≤ 60 ∧ d.shown.length ≤ sizeLine := by
  refine ⟨h.sh, PyData.hasDict_of_canLay d h.lay, Nat.le_trans h.dep hk, ?_⟩
  refine PyData.shown_fits (B := 13) (by decide) (by decide) (PyData.leavesShort_of_canLay0 13 d h.lay h.shrt) ?_
  have e : (2 : Nat) ^ 20 = 1048576 := by decide
  have := h.wt
  omega
theorem Sm.shaped {d : PyData} {k W : Nat} (h : Sm d k W) (hk : k ≤ 60) : SeqAt.shaped d = true := by
  show (d.canLay0 && decide (d.depth ≤ 64)) = true
  rw [h.lay, Bool.true_and]
  have := h.dep
  exact decide_eq_true (by omega)
/-- repr of such data -/
theorem call_reprM {X : Cx} (guard : X.A.guards = some []) {k : Nat} (room : Room k X.A) : CallR X (.builtin "repr") (fun xs H Q => ∃ v d, xs = [v] ∧ Dp X.K H v d ∧ isDisplay d = true ∧ Sm d 60 1048576 ∧ Q (.str d.shown) H) := by
  intro pins s σ H xs us Q I r ⟨v, d, e, dp, di, sm, q⟩
  obtain ⟨a, b, c, l⟩ := sm.rep (Nat.le_refl _) (Nat.le_refl _)
  exact call_reprD guard room pins s σ H xs us Q I r ⟨v, d, e, dp, di, a, b, c, l, q⟩
/-! ### lists of rows -/
inductive RowsAt (H : Hp) : List Addr → List (List Pr) → Prop
  | nil : RowsAt H [] []
  | cons {a : Addr} {as : List Addr} {r : List Pr} {rs : List (List Pr)} (h : RowAt H a r) (t : RowsAt H as rs) : RowsAt H (a :: as) (r :: rs)
theorem RowsAt.dp {K : PySem.W.Frag} {H : Hp} {as : List Addr} {rs : List (List Pr)} (h : RowsAt H as rs) : DpAll K H (as.map V.ref) (rs.map rowDat) := by
  induction h with
  | nil => exact .nil
  | cons a _ ih => exact .cons a.dp ih
theorem RowsAt.keep {H H' : Hp} {as : List Addr} {rs : List (List Pr)} (k : Keep H H') (h : RowsAt H as rs) : RowsAt H' as rs := by
  induction h with
  | nil => exact .nil
  | cons a _ ih => exact .cons (a.keep k) ih
def rowsDat (rs : List (List Pr)) : PyData := .list (rs.map rowDat)
theorem rows_dp {K : PySem.W.Frag} {H : Hp} {p : Addr} {as : List Addr} {rs : List (List Pr)} (e : H p = some (.lst (as.map V.ref))) (h : RowsAt H as rs) : Dp K H (.ref p) (rowsDat rs) := .lst (SqL.of e) h.dp
theorem sm_rows {rs : List (List Pr)} (h : ∀ r ∈ rs, Valid r ∧ r.length ≤ 400) (l : rs.length ≤ 100) : Sm (rowsDat rs) 60 1048576 := by
  have := (smAll_of (ds := rs.map rowDat) (k := 2) (W := 9200) fun d hd => by
    obtain ⟨r, hr, rfl⟩ := List.mem_map.mp hd
    exact sm_row (h r hr).1 (h r hr).2).list
  refine this.mono (by decide) ?_
  rw [List.length_map]
  omega
theorem eqvs_rows : ∀ rs qs : List (List Pr), PyData.eqvAll (rs.map rowDat) (qs.map rowDat) = decide (rs = qs)
  | [], [] => by simp [PyData.eqvAll]
  | [], _ :: _ => by simp [PyData.eqvAll]
  | _ :: _, [] => by simp [PyData.eqvAll]
  | r :: rs, q :: qs => by
    have ih := eqvs_rows rs qs
    simp only [List.map_cons, PyData.eqvAll]
    rw [ih, rowDat_eqv, Bool.eq_iff_iff]
    simp
theorem rowsDat_eqv (rs qs : List (List Pr)) : PyData.eqv (rowsDat rs) (rowsDat qs) = decide (rs = qs) := by
  simp only [rowsDat, PyData.eqv]
  exact eqvs_rows rs qs
theorem RowAt.upd {H : Hp} {a d : Addr} {r : List Pr} {xs ys : List V} (h : RowAt H a r) (n : a ≠ d) (e : H d = some (.lst xs)) : RowAt (L2.upd H d (.lst ys)) a r := by
  obtain ⟨qs, e1, p⟩ := h
  exact ⟨qs, by rw [upd_ne n]; exact e1, p.put fun q zs e2 => by rw [upd_ne (ne_of e2 e (by intro z; cases z))]; exact e2⟩
theorem RowsAt.upd {H : Hp} {as : List Addr} {d : Addr} {rs : List (List Pr)} {xs ys : List V} (h : RowsAt H as rs) (n : ∀ a ∈ as, a ≠ d) (e : H d = some (.lst xs)) : RowsAt (L2.upd H d (.lst ys)) as rs := by
  induction h with
  | nil => exact .nil
  | cons a _ ih => exact .cons (a.upd (n _ List.mem_cons_self) e) (ih fun a ha => n a (List.mem_cons_of_mem _ ha))
theorem RowsAt.app {H : Hp} {as bs : List Addr} {rs qs : List (List Pr)} (h : RowsAt H as rs) (g : RowsAt H bs qs) : RowsAt H (as ++ bs) (rs ++ qs) := by
  induction h with
  | nil => exact g
  | cons a _ ih => exact .cons a ih
theorem Exd.rows {H H' : Hp} {as : List Addr} {rs : List (List Pr)} (x : Exd H H') (h : RowsAt H as rs) : RowsAt H' as rs := h.keep fun b o _ e => x b o e
theorem marks_ne {H : Hp} {d x : Addr} {xs : List V} {S : Nat → Bool} (e1 : H d = some (.lst xs)) (e2 : H x = some (.lst (marks S))) (n : xs.length < 400) : d ≠ x := fun z => by
  rw [z, e2] at e1
  injection e1 with e1
  injection e1 with e1
  rw [← e1, marks_len] at n
  exact Nat.lt_irrefl _ n
/-- [f(k) for k in range(400)], True or False each -/
theorem lc_marks {j : Nat} {te : TE} {vs : List Nat} {σ : L2.St} {H1 : Hp} {D : Addr} {Qd : Hp → Prop} (f : Nat → Bool) (hw : ∀ v : V, wipe ((wipe σ vs).set j (some v)) vs = wipe σ vs)
    (hs : ∀ (i : Nat) (H' : Hp) (Q : VK), i < 400 → H' = upd H1 D (.lst ((List.range i).map fun n => V.bl (f n))) → Q (.bl (f i)) H' → te ((wipe σ vs).set j (some (.int ((0 : Int) + (i : Int))))) H' Q) (hd : Qd (upd H1 D (.lst (marks f)))) :
    ∃ W : Nat → Nat → Hp → Prop, (∃ m, W 0 m (upd H1 D (.lst []))) ∧ ∀ i m H, W i m H →
      ((Itr 0 (400 : Int).toNat).stop i H ∧ Qd H) ∨ ((Itr 0 (400 : Int).toNat).go i H ∧ ∃ Nx : Hp → Prop, (∀ H', Nx H' → ∃ m', m' < m ∧ W (i + 1) m' H') ∧ ∀ x H', (Itr 0 (400 : Int).toNat).yld i H x H' → gName j x (wipe σ vs) H' fun σ2 H2 => wipe σ2 vs = wipe σ vs ∧ tYes σ2 H2 fun b H3 =>
        if b = true then te σ2 H3 fun y H4 => ∃ acc, H4 D = some (.lst acc) ∧ acc.length < sizeLine ∧ Nx (upd H4 D (.lst (acc ++ [y]))) else Nx H3) := by
  refine lc_range (lo := 0) (fun i H' => H' = upd H1 D (.lst ((List.range i).map fun n => V.bl (f n)))) rfl ?_ ?_
  · intro i H' hi e
    have hi : i < 400 := hi
    refine ⟨hw _, ?_⟩
    refine hs i H' (fun y H4 => ∃ acc, H4 D = some (.lst acc) ∧ acc.length < sizeLine ∧ upd H4 D (.lst (acc ++ [y])) = upd H1 D (.lst ((List.range (i + 1)).map fun n => V.bl (f n)))) hi e ⟨_, by rw [e]; exact upd_same, ?_, ?_⟩
    · rw [List.length_map, List.length_range]
      have := PySem.sizeLine_eq
      omega
    · rw [e, upd_upd, marks_snoc]
  · intro H' e
    have e : H' = upd H1 D (.lst (marks f)) := e
    rw [e]
    exact hd
theorem RowsAt.kept {a : Addr} {H H' : Hp} {as : List Addr} {rs : List (List Pr)} (h : RowsAt H as rs) (bx : ∃ o, H a = some o ∧ BoxO o) (x : Kept a H H') : RowsAt H' as rs := by
  induction h with
  | nil => exact .nil
  | cons r _ ih => exact .cons (r.kept bx x) ih
theorem RowsAt.nw {P : Addr} {H H' : Hp} {as : List Addr} {rs : List (List Pr)} (h : RowsAt H as rs) (x : Nw P H H') : RowsAt H' as rs := h.keep x.keep
theorem sqL_nw {P : Addr} {H H' : Hp} {K : PySem.W.Frag} {a : Addr} {xs : List V} (x : Nw P H H') (h : SqL K H a xs) : SqL K H' a xs := by
  rcases h with h | h
  · refine .inl ?_
    rcases h with h | ⟨o, h⟩
    · exact .inl (x.keep _ _ (fun q z => by cases z) h)
    · exact .inr ⟨o, x.keep _ _ (fun q z => by cases z) h⟩
  · exact .inr h
/-- [e for x in range(lo, .., c)] -/
theorem lc_step {lo c : Int} {n : Nat} {g : TG} {tt : TT} {te : TE} {vs : List Nat} {σ : L2.St} {H1 : Hp} {D : Addr} {Qd : Hp → Prop} (J : Nat → Hp → Prop) (first : J 0 (upd H1 D (.lst [])))
    (turn : ∀ i H, i < n → J i H → g (.int (lo + (i : Nat) * c)) (wipe σ vs) H fun σ2 H2 => wipe σ2 vs = wipe σ vs ∧ tt σ2 H2 fun b H3 =>
      if b = true then te σ2 H3 fun y H4 => ∃ acc, H4 D = some (.lst acc) ∧ acc.length < sizeLine ∧ J (i + 1) (upd H4 D (.lst (acc ++ [y]))) else J (i + 1) H3) (last : ∀ H, J n H → Qd H) :
    ∃ W : Nat → Nat → Hp → Prop, (∃ m, W 0 m (upd H1 D (.lst []))) ∧ ∀ i m H, W i m H →
      ((Itc lo c n).stop i H ∧ Qd H) ∨ ((Itc lo c n).go i H ∧ ∃ Nx : Hp → Prop, (∀ H', Nx H' → ∃ m', m' < m ∧ W (i + 1) m' H') ∧ ∀ x H', (Itc lo c n).yld i H x H' → g x (wipe σ vs) H' fun σ2 H2 => wipe σ2 vs = wipe σ vs ∧ tt σ2 H2 fun b H3 =>
        if b = true then te σ2 H3 fun y H4 => ∃ acc, H4 D = some (.lst acc) ∧ acc.length < sizeLine ∧ Nx (upd H4 D (.lst (acc ++ [y]))) else Nx H3) := by
  refine ⟨fun i m H => m = n - i ∧ i ≤ n ∧ J i H, ⟨n, by simp, Nat.zero_le _, first⟩, ?_⟩
  rintro i m H ⟨rfl, le, j⟩
  rcases Nat.lt_or_ge i n with lt | ge
  · refine .inr ⟨lt, J (i + 1), fun H' j' => ⟨n - (i + 1), by omega, rfl, lt, j'⟩, fun x H' y => ?_⟩
    obtain ⟨rfl, rfl⟩ := y
    exact turn i _ lt j
  · obtain rfl : i = n := by omega
    exact .inl ⟨Nat.le_refl _, last H j⟩
end LL
namespace LL
open PySem PySem.Spec PyProof.Rows L2
/-! ### list(reversed(x)), x a list -/
section
variable {prog : Program} {w : World} {A : Around} {E : Value → Shared → Prop} {s : Shared} {it l : Addr} {ys : Array Value}
/-- what a list drew from such an iterator -/
def BackOf (ys acc : Array Value) : Prop := ItemsOf (fun i v => ys[ys.size - 1 - i]? = some v) acc ys.size
theorem back_extend {Rr : Result → Shared → Prop} (calm : A.handled = none) (ri : s.heap.IsRevIter it l ((ys.size : Int) - 1)) (li : s.heap.IsList l ys) (ne : l ≠ it) (few : ys.size ≤ sizeLine)
    (S : Addr) (Si : S ≠ it) (Sl : S ≠ l) (res : Value) (c0 : Nat) (eS : s.heap.get? S = some { cls := .type "list", data := .seq #[] c0 })
    (fin : ∀ h' tk acc c', (∀ b o, b ≠ S → b ≠ it → s.heap.get? b = some o → h'.get? b = some o) → h'.get? S = some { cls := .type "list", dict := none, data := .seq acc c', slots := #[] } → BackOf ys acc →
      Rr (.ok (.ret res)) { s with heap := h', toks := tk }) :
    wpAny (model prog w) A.in1 (Builtin.List.listExtendWith (.ref S) (.ref it) res)
      (fun z s' => match z with | .done f => Rr (.ok f) s' | .again c' => c'.quiet = true ∧ codeAny (model prog w) A c' Rr s') (fun e s' => Rr (.error e) s') s := by
  have W := (Walks.listRev (prog := prog) (w := w) (A := A.in1) calm it l ne ys).toS
  have notIn : S ∉ [it, l] := by
    simp only [List.mem_cons, List.not_mem_nil, or_false, not_or]
    exact ⟨Si, Sl⟩
  have ty : s.TypeIs (.ref it) "list_reverseiterator" := ri.typeIs
  have other : Builtin.List.listSameRef (.ref S) (.ref it) = false := by simp [Builtin.List.listSameRef, Si]
  have e0 : ((ys.size : Nat) : Int) - 1 - ((0 : Nat) : Int) = (ys.size : Int) - 1 := by omega
  unfold Builtin.List.listExtendWith
  refine wpAny_bind (wpAny_typeOf ty ?_)
  rw [if_neg (by rw [other]; decide)]
  refine wpAny_bind (wpAny_pyIter_revIter ri ?_)
  refine wpAny_bind (wpAny_holding ?_)
  unfold Builtin.List.listLengthHint
  refine wpAny_bind (wpAny_specialOf ty RT.nolen_lri ?_)
  refine (show wpAny _ A.in1 (specialOf (Value.ref it) (Str.ofString "__length_hint__") >>= _) _ _ _ from ?_)
  refine wpAny_bind (wpAny_specialOf ty RT.hint_lri ?_)
  generalize hid : ("list_reverseiterator.__length_hint__" : String) = id0
  wp_delta
  rw [show splitId id0 = some ("list_reverseiterator", "__length_hint__") from by subst hid; decide +kernel]
  subst hid
  refine wpAny_bind (wpAny_isInstance (b := true) ty (by rw [isSubtype_type]; kernel_rfl) ?_)
  refine wpAny_pure ?_
  rw [if_neg (by decide)]
  refine wpAny_pure ⟨plainId_quiet F.plain_extend_loop _, codeAny_extend_loopS W few _ notIn _ ys.size 0 _ _ _ rfl (Nat.zero_le _) ⟨Nat.zero_le _, by rw [e0]; exact ri, li⟩ eS (ItemsOf.nil _) fun s' acc c' mv eS' got => ?_⟩
  rw [Moved.eq_with mv]
  refine fin s'.heap s'.toks acc c' (fun b o n1 n2 e => mv.heap b o (fun m => ?_) e) eS' got
  rcases List.mem_cons.mp m with q | m
  · exact n1 q
  · exact n2 (List.mem_singleton.mp m)
theorem back_init {Rr : Result → Shared → Prop} (calm : A.handled = none) (ri : s.heap.IsRevIter it l ((ys.size : Int) - 1)) (li : s.heap.IsList l ys) (ne : l ≠ it) (few : ys.size ≤ sizeLine)
    (S : Addr) (Si : S ≠ it) (Sl : S ≠ l) (eS : s.heap.get? S = some { cls := .type "list", data := .seq #[] })
    (fin : ∀ h' tk acc c', (∀ b o, b ≠ S → b ≠ it → s.heap.get? b = some o → h'.get? b = some o) → h'.get? S = some { cls := .type "list", dict := none, data := .seq acc c', slots := #[] } → BackOf ys acc →
      Rr (.ok (.ret .none)) { s with heap := h', toks := tk }) :
    wpAny (model prog w) A.in1 (Builtin.«list.__init__» ⟨[.ref S, .ref it], []⟩)
      (fun z s' => match z with | .done f => Rr (.ok f) s' | .again c' => c'.quiet = true ∧ codeAny (model prog w) A c' Rr s') (fun e s' => Rr (.error e) s') s := by
  refine (show wpAny _ _ (do let old ← Builtin.List.listItems (.ref S); Builtin.List.listUpdate (.ref S) (fun _ => #[]); letGo old.toList.reverse; Builtin.List.listExtendWith (.ref S) (.ref it) .none) _ _ s from ?_)
  refine wpAny_bind ?_
  unfold Builtin.List.listItems
  refine wpAny_bind (wpAny_seqItems eS rfl (wpAny_pure ?_))
  refine (show wpAny _ _ (updateSeq S (fun _ => #[]) >>= fun _ => letGo (#[] : Array Value).toList.reverse >>= fun _ => Builtin.List.listExtendWith (.ref S) (.ref it) .none) _ _ s from ?_)
  refine wpAny_bind (wpAny_updateSeq eS rfl ?_)
  have eS2 := Heap.get?_update_self (Obj.mapSeq (fun _ => (#[] : Array Value))) eS rfl
  have rest : ∀ b o, b ≠ S → s.heap.get? b = some o → (s.heap.update S (Obj.mapSeq (fun _ => (#[] : Array Value)))).get? b = some o :=
    fun b o n e => (Heap.get?_update_other _ _ n.symm).trans e
  refine wpAny_bind (wpAny_letGo ?_)
  refine back_extend calm (ri.at fun o e => rest it o Si.symm e) ?_ ne few S Si Sl .none _ eS2 fun h' tk acc c' k eS' got => ?_
  · obtain ⟨o, e, c, n, d⟩ := li
    exact ⟨o, rest l o Sl.symm e, c, n, d⟩
  · exact fin h' tk acc c' (fun b o n1 n2 e => k b o n1 n2 (rest b o n1 e)) eS' got
theorem back_list {Q : Value → Shared → Prop} (calm : A.handled = none) (ri : s.heap.IsRevIter it l ((ys.size : Int) - 1)) (li : s.heap.IsList l ys) (ne : l ≠ it) (few : ys.size ≤ sizeLine)
    (fin : ∀ h' tk acc c', (∀ b o, b ≠ it → s.heap.get? b = some o → h'.get? b = some o) → h'.get? s.heap.objs.size = some { cls := .type "list", dict := none, data := .seq acc c', slots := #[] } → BackOf ys acc →
      Q (.ref s.heap.objs.size) { s with heap := h', toks := tk }) : wpAny (model prog w) A (call (.type "list") [.ref it]) Q E s := by
  refine callType_codes (Q₁ := fun obj s1 => obj = .ref s.heap.objs.size ∧ s1 = { s with heap := s.heap.push { cls := .type "list", data := .seq #[] } }) F.called_list (F.typeCall_list_1 _) F.entry_list_init
    (code_list_new _ ⟨rfl, rfl⟩) fun obj s1 h1 => ?_
  obtain ⟨rfl, rfl⟩ := h1
  obtain ⟨oi, hoi, _⟩ := id ri
  obtain ⟨ol, hol, _⟩ := id li
  have eS : (s.heap.push { cls := .type "list", data := .seq #[] }).get? s.heap.objs.size = some { cls := .type "list", data := .seq #[] } := Heap.get?_push_size _ rfl
  refine ⟨⟨_, eS, rfl⟩, F.args_list_init_2 _ _, back_init (A := A.in1) calm (ri.at fun o e => Heap.get?_push_of_some _ e) (li.push _) ne few _ (Nat.ne_of_gt (Heap.lt_size hoi)) (Nat.ne_of_gt (Heap.lt_size hol)) eS fun h' tk acc c' k eS' got => ?_⟩
  exact ⟨rfl, fin h' tk acc c' (fun b o n e => k b o (Nat.ne_of_lt (Heap.lt_size e)) n (Heap.get?_push_of_some _ e)) eS' got⟩
end
section
variable {X : Cx}
/-- list(reversed(x)), x a list: a new list -/
def tLstRev (K : PySem.W.Frag) (te : TE) : TE := fun σ H Q => te σ H fun v H1 => ∃ (a : Addr) (xs : List V), v = .ref a ∧ SqL K H1 a xs ∧ ∀ q, H1 q = none → Q (.ref q) (upd H1 q (.lst xs.reverse))
theorem pe_lstRev {e : Expr} {te : TE} {p p2 pos pos2 : Pos} (calm : X.calm = true) (g1 : Gl X "list") (m1 : X.mg "list" = none) (g2 : Gl X "reversed") (m2 : X.mg "reversed" = none) (he : PE X e te)
    (n1 : starEach [e] X.env = (false, eval e X.env) :: starEach [] X.env := by rfl)
    (n2 : starEach [.Call (.Name "reversed" p2) [e] [] pos2] X.env = (false, eval (.Call (.Name "reversed" p2) [e] [] pos2) X.env) :: starEach [] X.env := by rfl) :
    PE X (.Call (.Name "list" p) [.Call (.Name "reversed" p2) [e] [] pos2] [] pos) (tLstRev X.K te) := by
  refine ⟨fun pins s σ H Q I h => ?_⟩
  refine Call_ (ld_blt I g1 m1 boot_list (PyProof.Rows.callWith_type1 (args_cons (Call_ (ld_blt I g2 m2 PyProof.Rows.boot_reversed (PyProof.Rows.callWith_type1 (args_cons (thn (he.run pins s σ H _ I h) fun u r1 ⟨v, H1, J, ru, want⟩ => args_nil ?_) n1) n1 rfl))) n2) n2 rfl))
  obtain ⟨a, xs, rfl, sq, q⟩ := want
  obtain rfl : u = Value.ref a := ru
  obtain ⟨its, rv, pl, hz⟩ := J.list sq
  refine call_reversed_list pl.isList (args_nil ?_)
  have k0 : ∀ b o, r1.heap.get? b = some o → (r1.heap.push (revObj a ((its.toArray.size : Int) - 1))).get? b = some o := fun b o e => Heap.get?_push_of_some _ e
  have J2 : Inv X pins σ H1 { r1 with heap := r1.heap.push (revObj a ((its.toArray.size : Int) - 1)) } := J.kept (t' := r1.toks) k0
  obtain ⟨f0, f1, f2, f3, f4, f5⟩ := J.fpOk (H' := H1) (b := r1.heap.objs.size) (Nat.le_refl _) (J.hok.fresh (Nat.le_refl _))
  have li := pl.isList
  obtain ⟨ol, hol, _⟩ := id li
  have ne : a ≠ r1.heap.objs.size := Nat.ne_of_lt (Heap.lt_size hol)
  have few : its.toArray.size ≤ sizeLine := by rw [List.size_toArray, ← rv.length]; exact hz
  have sz : (r1.heap.push (revObj a ((its.toArray.size : Int) - 1))).objs.size = r1.heap.objs.size + 1 := Heap.size_push ..
  have no : H1 (r1.heap.objs.size + 1) = none := J.hok.fresh (Nat.le_succ _)
  refine back_list (s := { r1 with heap := r1.heap.push (revObj a ((its.toArray.size : Int) - 1)) }) (J.ok.hd calm) ⟨_, Heap.get?_push_size _ rfl, rfl, rfl⟩ (li.push _) ne few fun h' tk acc c' k eS got => ?_
  have rest : acc.toList = its.reverse := by
    have hs : its.toArray.size = its.length := List.size_toArray
    have hl : acc.toList.length = its.length := by rw [Array.length_toList, got.1, hs]
    apply List.ext_getElem?
    intro j
    by_cases hj : j < its.length
    · have hja : j < acc.toList.length := by omega
      have e1 : acc.toList[j]? = some acc.toList[j] := List.getElem?_eq_getElem hja
      have e2 : its.toArray[its.toArray.size - 1 - j]? = some acc.toList[j] := got.2 j _ (by rw [← Array.getElem?_toList]; exact e1)
      rw [e1, List.getElem?_reverse hj, ← e2, hs]
      simp
    · rw [List.getElem?_eq_none (by omega), List.getElem?_eq_none (by rw [List.length_reverse]; omega)]
  have J3 := J2.turnedNew (h' := h') (t' := tk) (ch := [r1.heap.objs.size]) (T := (r1.heap.push (revObj a ((its.toArray.size : Int) - 1))).objs.size) (ob := .lst xs.reverse) (fun b o n e => k b o (fun z => n (by rw [z]; exact List.mem_singleton.mpr rfl)) e)
    (fun b hb => by
      obtain rfl := List.mem_singleton.mp hb
      exact ⟨f0, f1, f2, f3, f4, f5⟩) (Nat.le_refl _) (show ObjOk X.prog X.w _ _ _ (.lst xs.reverse) from ⟨by rw [List.length_reverse]; exact hz, acc.toList, c', by rw [rest]; exact rv.reverse, by rw [Array.toArray_toList]; exact eS⟩)
  exact ⟨.ref _, _, J3, rfl, q _ (J2.hok.fresh (Nat.le_refl _))⟩
/-! ### list(range(i, j, c)) -/
def steps (i c : Int) (n : Nat) : List V := (List.range n).map fun k => V.int (i + (k : Nat) * c)
theorem vals_steps {i c : Int} {n : Nat} {acc : Array Value} (h : ItemsOf (fun k v => ∃ t, v = .int (i + k * c) t) acc n) : Vals (steps i c n) acc.toList := by
  have e : acc.toList.length = n := by rw [Array.length_toList]; exact h.1
  unfold steps
  rw [← e]
  refine vals_of_get acc.toList _ fun j u hj => ?_
  obtain ⟨t, rfl⟩ := h.2 j u (by rw [← hj, Array.getElem?_toList])
  exact ⟨t, rfl⟩
def tLstStep (ta : TA) : TE := fun σ H Q => ta σ H fun vs H1 => ∃ (i j c : Int) (n : Nat), vs = [.int i, .int j, .int c] ∧ RgC i j c n ∧ n ≤ 16777216 ∧ ∀ q, H1 q = none → Q (.ref q) (upd H1 q (.lst (steps i c n)))
theorem pe_lstStep {a b c : Expr} {ta : TA} {p p2 pos pos2 : Pos} (calm : X.calm = true) (g1 : Gl X "list") (m1 : X.mg "list" = none) (g2 : Gl X "range") (m2 : X.mg "range" = none) (ha : PA X [a, b, c] ta)
    (n1 : starEach [a, b, c] X.env = (false, eval a X.env) :: starEach [b, c] X.env := by rfl) (n2 : (backTo pos2 (starEach [b, c] X.env)).any (·.1) = false := by rfl)
    (n3 : starEach [.Call (.Name "range" p2) [a, b, c] [] pos2] X.env = (false, eval (.Call (.Name "range" p2) [a, b, c] [] pos2) X.env) :: starEach [] X.env := by rfl) :
    PE X (.Call (.Name "list" p) [.Call (.Name "range" p2) [a, b, c] [] pos2] [] pos) (tLstStep ta) := by
  refine ⟨fun pins s σ H Q I h => ?_⟩
  refine Call_ (ld_blt I g1 m1 boot_list (PyProof.Rows.callWith_type1 (args_cons (Call_ (ld_blt I g2 m2 boot_range (PyProof.Rows.callWith_type1 (thn (ha.run pos2 pins s σ H _ I h) fun us r1 ⟨vs, H1, J, rv, want⟩ => ?_) n1 n2))) n3) n3))
  obtain ⟨i, j, k, n, rfl, ⟨c0, c1, c2, c3⟩, few, q⟩ := want
  cases rv with
  | cons r rr =>
    cases rr with
    | cons r' rr =>
      cases rr with
      | cons r'' rr =>
        cases rr
        obtain ⟨t, rfl⟩ := r
        obtain ⟨t', rfl⟩ := r'
        obtain ⟨t'', rfl⟩ := r''
        refine call_range_3 c0 (args_nil ?_) (.inl (PyProof.noPylong_small c1))
        have J2 : Inv X pins σ H1 { r1 with heap := r1.heap.push { cls := .type "range", data := .fields #[.int i t, .int j t', .int k t''] } } := J.kept (t' := r1.toks) fun b o e => Heap.get?_push_of_some _ e
        refine call_list_range (n := n) (J.ok.hd calm) (IsRange.new ..) c2 c3 (by omega) fun h' tk acc c' keep eS got => ?_
        refine ⟨.ref _, _, J2.laid (t' := tk) (o := .lst (steps i k n)) keep (Nat.le_refl _) ⟨?_, acc.toList, c', vals_steps got, ?_⟩, rfl, q _ (J2.hok.fresh (Nat.le_refl _))⟩
        · unfold steps
          rw [List.length_map, List.length_range, sizeLine_eq]
          exact few
        · rw [Array.toArray_toList]
          exact eS
/-- for x in xs, a list or a tuple -/
def iSeq (K : PySem.W.Frag) (tl : TE) : TI := fun σ H R => tl σ H fun x H1 => ∃ a, x = .ref a ∧ (((∃ xs, SqL K H1 a xs) ∧ R (Itl K a) H1) ∨ ((∃ xs, SqT K H1 a xs) ∧ R (Itt K a) H1))
theorem pi_seq {tg l : Expr} {tl : TE} (hl : PE X l tl) : PI X tg l (iSeq X.K tl) := by
  refine ⟨fun pins s σ H R I h => ?_⟩
  refine thn (hl.run pins s σ H _ I h) fun v s1 ⟨x, H1, J, rv, want⟩ => ?_
  obtain ⟨a, rfl, want⟩ := want
  obtain rfl : v = Value.ref a := rv
  have fresh : ∀ ob : Obj, ∀ b ∈ [s1.heap.objs.size], FpOk X pins H1 b := fun ob b hb => by
    obtain rfl := List.mem_singleton.mp hb
    exact J.fpOk (Nat.le_refl _) (J.hok.fresh (Nat.le_refl _))
  rcases want with ⟨⟨xs, sq⟩, q⟩ | ⟨⟨xs, sq⟩, q⟩
  · obtain ⟨its, rs, pl, _⟩ := J.list sq
    refine wpAny_pyIter_list pl.isList ?_
    exact ⟨s1.heap.objs.size, [s1.heap.objs.size], _, _, H1, rfl, J.kept (t' := s1.toks) fun b o e => Heap.get?_push_of_some _ e, turn_list a _, ⟨_, Heap.get?_push_size _ rfl, rfl, rfl⟩, fresh default, q⟩
  · obtain ⟨its, rs, pl, _⟩ := J.tuple sq
    refine wpAny_pyIter_tuple (show s1.heap.IsTuple a its.toArray from pl) ?_
    exact ⟨s1.heap.objs.size, [s1.heap.objs.size], _, _, H1, rfl, J.kept (t' := s1.toks) fun b o e => Heap.get?_push_of_some _ e, turn_tuple a _, ⟨_, Heap.get?_push_size _ rfl, rfl, rfl⟩, fresh default, q⟩
/-- isinstance(x, (list, tuple)) -/
inductive IsSeq (K : PySem.W.Frag) (H : Hp) : V → Bool → Prop
  | non : IsSeq K H .non false
  | bl (b : Bool) : IsSeq K H (.bl b) false
  | int (i : Int) : IsSeq K H (.int i) false
  | str (z : Str) : IsSeq K H (.str z) false
  | lst {a : Addr} (h : TyX K H (.ref a) (.type "list")) : IsSeq K H (.ref a) true
  | tup {a : Addr} (h : TyX K H (.ref a) (.type "tuple")) : IsSeq K H (.ref a) true
  | dct {a : Addr} (h : TyX K H (.ref a) (.type "dict")) : IsSeq K H (.ref a) false
theorem kit_lt {K : PySem.W.Frag} {a : String} {x y r : Bool} (h1 : kitB a "list" = some x) (h2 : kitB a "tuple" = some y) (e : r = (x || y)) : PySem.W.kitAny K (.type a) [.type "list", .type "tuple"] = some r := by
  refine kitAny_cons (kit_ty h1) (fun z => ?_) (fun z => by rw [e, z]; rfl)
  refine kitAny_cons (kit_ty h2) (fun z2 => ?_) (fun z2 => by rw [e, z2, Bool.or_true])
  rw [e, z, z2]
  exact kitAny_nil
theorem isi_seq {K : PySem.W.Frag} {H : Hp} {x : V} {b : Bool} {tp : Addr} {Q : VK} (ht : H tp = some (.tup [.ty "list", .ty "tuple"])) (h : IsSeq K H x b) (q : Q (.bl b) H) : rIsiT K [x, .ref tp] H Q := by
  have two : Paired ClsV [.ty "list", .ty "tuple"] [.type "list", .type "tuple"] := .cons (.ty _) (.cons (.ty _) .nil)
  cases h with
  | non => exact ⟨_, _, _, _, _, _, rfl, ht, two, .base .non, kit_lt (x := false) (y := false) (by decide +kernel) (by decide +kernel) rfl, q⟩
  | bl b => exact ⟨_, _, _, _, _, _, rfl, ht, two, .base (.bl b), kit_lt (x := false) (y := false) (by decide +kernel) (by decide +kernel) rfl, q⟩
  | int i => exact ⟨_, _, _, _, _, _, rfl, ht, two, .base (.int i), kit_lt (x := false) (y := false) (by decide +kernel) (by decide +kernel) rfl, q⟩
  | str z => exact ⟨_, _, _, _, _, _, rfl, ht, two, .base (.str z), kit_lt (x := false) (y := false) (by decide +kernel) (by decide +kernel) rfl, q⟩
  | lst h => exact ⟨_, _, _, _, _, _, rfl, ht, two, h, kit_lt (x := true) (y := false) (by decide +kernel) (by decide +kernel) rfl, q⟩
  | tup h => exact ⟨_, _, _, _, _, _, rfl, ht, two, h, kit_lt (x := false) (y := true) (by decide +kernel) (by decide +kernel) rfl, q⟩
  | dct h => exact ⟨_, _, _, _, _, _, rfl, ht, two, h, kit_lt (x := false) (y := false) (by decide +kernel) (by decide +kernel) rfl, q⟩
theorem call_is_seq : CallR X (.builtin "isinstance") (fun xs H Q => ∃ x tp b, xs = [x, .ref tp] ∧ H tp = some (.tup [.ty "list", .ty "tuple"]) ∧ IsSeq X.K H x b ∧ Q (.bl b) H) := by
  intro pins s σ H xs us Q I r ⟨x, tp, b, e, ht, th, q⟩
  subst e
  exact call_isiT pins s σ H _ us Q I r (isi_seq ht th q)
theorem IsSeq.keep {K : PySem.W.Frag} {H H' : Hp} {x : V} {b : Bool} (k : Keep H H') (h : IsSeq K H x b) : IsSeq K H' x b := by
  cases h with
  | non => exact .non
  | bl b => exact .bl b
  | int i => exact .int i
  | str z => exact .str z
  | lst h => exact .lst (tyX_keep k h)
  | tup h => exact .tup (tyX_keep k h)
  | dct h => exact .dct (tyX_keep k h)
end
theorem op_in_seqK {X : Cx} {K : PySem.W.Frag} (h : X.K = K) : OpR X (compareOp .In) (rIn K false) := by
  rw [← h]
  exact op_in_seq
/-- the same in a comprehension's frame -/
theorem pg_tupK {X : Cx} {K : PySem.W.Frag} {es : List Expr} {k : Nat} {t : TGs} {n : Nat} {pos : Pos} (hK : X.K = K) (hc : X.calm = true) (h : PGs X es t)
    (hn : (assignEach es X.env).length = n := by rfl) (hst : (assignEach es X.env).findIdx? (·.1) = none := by rfl) : PG X (.Tuple es k pos) (gTup K n t) := by
  rw [← hK]
  exact pg_tup hc h hn hst
end LL
namespace LL
open PySem PySem.Spec PyProof.Rows L2
/-! ### a row's numbers, one by one -/
theorem filt_gap {S : Nat → Bool} {x y : Nat} (h : x ≤ y) (no : ∀ n, x ≤ n → n < y → S n = false) : (List.range y).filter S = (List.range x).filter S := by
  obtain ⟨d, rfl⟩ := Nat.exists_eq_add_of_le h
  clear h
  induction d with
  | zero => rfl
  | succ d ih =>
    rw [← Nat.add_assoc, List.range_succ, List.filter_append, ih (fun n a b => no n a (by omega))]
    rw [List.filter_cons_of_neg (by rw [no (x + d) (by omega) (by omega)]; exact Bool.false_ne_true), List.filter_nil, List.append_nil]
theorem filt_one {S : Nat → Bool} {n : Nat} (h : S n = true) : (List.range (n + 1)).filter S = (List.range n).filter S ++ [n] := by
  rw [List.range_succ, List.filter_append, List.filter_cons_of_pos h, List.filter_nil]
def numsOf (r : List Pr) : List Nat := (List.range 400).filter (has r)
theorem TidyFrom.split : ∀ {r1 : List Pr} {b : Nat} {z : Pr} {r2 : List Pr}, TidyFrom b (r1 ++ z :: r2) → (∀ y ∈ r1, y.2 < z.1) ∧ z.1 < z.2 ∧ z.2 ≤ 400 ∧ TidyFrom (z.2 + 1) r2
  | [], _, z, r2, ⟨_, h2, h3, h4⟩ => ⟨(fun y hy => nomatch hy), h2, h3, h4⟩
  | w :: r1, b, z, r2, ⟨h1, h2, h3, h4⟩ => by
    obtain ⟨a1, a2, a3, a4⟩ := TidyFrom.split (r1 := r1) h4
    refine ⟨fun y hy => ?_, a2, a3, a4⟩
    rcases List.mem_cons.mp hy with rfl | hy
    · have : has (r1 ++ z :: r2) z.1 = true := by rw [has_app, has_cons, decide_eq_true (Nat.le_refl _), decide_eq_true a2]; simp
      have := (h4.low this).1
      omega
    · exact a1 y hy
theorem has_over {r : List Pr} {n : Nat} (h : ∀ y ∈ r, y.2 ≤ n) : has r n = false := by
  cases q : has r n with
  | false => rfl
  | true =>
    obtain ⟨y, hy, q⟩ := List.any_eq_true.mp q
    have q := of_decide_eq_true (Bool.and_eq_true_iff.mp q).2
    have := h y hy
    omega
/-- where the i-th stretch begins, or the end -/
def upTo (r : List Pr) (i : Nat) : Nat := match r[i]? with | some z => z.1 | none => 400
theorem upTo_gap {r : List Pr} {i : Nat} {z : Pr} (h : Tidy r) (e : r[i]? = some z) : z.2 ≤ upTo r (i + 1) ∧ ∀ n, z.2 ≤ n → n < upTo r (i + 1) → has r n = false := by
  obtain ⟨hi, rfl⟩ := List.getElem?_eq_some_iff.mp e
  have sp : r = r.take i ++ r[i] :: r.drop (i + 1) := by
    rw [← List.drop_eq_getElem_cons hi, List.take_append_drop]
  have h' := h
  rw [sp] at h'
  obtain ⟨a1, a2, a3, a4⟩ := TidyFrom.split (b := 0) h'
  have get : r[i + 1]? = (r.drop (i + 1))[0]? := by rw [List.getElem?_drop]
  unfold upTo
  rw [get]
  cases q : r.drop (i + 1) with
  | nil =>
    refine ⟨a3, fun n l _ => ?_⟩
    rw [sp, has_app, has_cons, q, has_nil, has_over (fun y hy => Nat.le_of_lt (Nat.lt_of_lt_of_le (a1 y hy) (by omega))), decide_eq_false (show ¬ n < r[i].2 by omega), Bool.and_false]
    rfl
  | cons w t =>
    rw [q] at a4
    obtain ⟨b1, b2, b3, b4⟩ := a4
    refine ⟨Nat.le_of_succ_le b1, fun n l u => ?_⟩
    have u : n < w.1 := u
    have no : has (w :: t) n = false := TidyFrom.none (b := w.1) (r := w :: t) ⟨Nat.le_refl _, b2, b3, b4⟩ u
    rw [sp, has_app, has_cons, q, no, has_over (fun y hy => by have := a1 y hy; omega), decide_eq_false (show ¬ n < r[i].2 by omega), Bool.and_false]
    rfl
theorem upTo_first {r : List Pr} (h : Tidy r) : ∀ n, n < upTo r 0 → has r n = false := fun n l => by
  cases r with
  | nil => rfl
  | cons z r =>
    obtain ⟨h1, h2, h3, h4⟩ := h
    exact TidyFrom.none (b := z.1) (r := z :: r) ⟨Nat.le_refl _, h2, h3, h4⟩ l
theorem upTo_in {r : List Pr} {i : Nat} {z : Pr} (e : r[i]? = some z) : upTo r i = z.1 := by
  unfold upTo
  rw [e]
theorem upTo_end {r : List Pr} : upTo r r.length = 400 := by
  unfold upTo
  rw [List.getElem?_eq_none (Nat.le_refl _)]
theorem has_at {r : List Pr} {i : Nat} {z : Pr} {n : Nat} (e : r[i]? = some z) (l : z.1 ≤ n) (u : n < z.2) : has r n = true :=
  List.any_eq_true.mpr ⟨z, List.mem_of_getElem? e, by rw [decide_eq_true l, decide_eq_true u]; rfl⟩
/-! ### [e for x in xs for y in range(..)] -/
theorem lc2_rows {K : PySem.W.Frag} {a : Addr} {xs : List V} {g g1 : TG} {tt tt1 : TT} {wi1 : TI} {te : TE} {vs vs1 : List Nat} {σ : L2.St} {H1 : Hp} {D : Addr} {Qd : Hp → Prop} (J : Nat → Hp → Prop) (first : J 0 (upd H1 D (.lst []))) (still : ∀ i H, i ≤ xs.length → J i H → SqL K H a xs)
    (turn : ∀ i x H, xs[i]? = some x → J i H → g x (wipe σ vs) H fun σ2 H2 => wipe σ2 vs = wipe σ vs ∧ tt σ2 H2 fun b H3 =>
      if b = true then wi1 σ2 H3 fun J1 H4 => ∃ W1 : Nat → Nat → Hp → Prop, (∃ m, W1 0 m H4) ∧ ∀ j k H, W1 j k H →
        (J1.stop j H ∧ J (i + 1) H) ∨ (J1.go j H ∧ ∃ Nx1 : Hp → Prop, (∀ H', Nx1 H' → ∃ k', k' < k ∧ W1 (j + 1) k' H') ∧ ∀ x H', J1.yld j H x H' → g1 x (wipe σ2 vs1) H' fun σ3 H5 => wipe σ3 vs1 = wipe σ2 vs1 ∧ tt1 σ3 H5 fun b H6 =>
          if b = true then te σ3 H6 fun y H7 => ∃ acc, H7 D = some (.lst acc) ∧ acc.length < sizeLine ∧ Nx1 (upd H7 D (.lst (acc ++ [y]))) else Nx1 H6)
      else J (i + 1) H3) (last : ∀ H, J xs.length H → Qd H) :
    ∃ W : Nat → Nat → Hp → Prop, (∃ m, W 0 m (upd H1 D (.lst []))) ∧ ∀ i m H, W i m H →
      ((Itl K a).stop i H ∧ Qd H) ∨ ((Itl K a).go i H ∧ ∃ Nx : Hp → Prop, (∀ H', Nx H' → ∃ m', m' < m ∧ W (i + 1) m' H') ∧ ∀ x H', (Itl K a).yld i H x H' → g x (wipe σ vs) H' fun σ2 H2 => wipe σ2 vs = wipe σ vs ∧ tt σ2 H2 fun b H3 =>
        if b = true then wi1 σ2 H3 fun J1 H4 => ∃ W1 : Nat → Nat → Hp → Prop, (∃ m, W1 0 m H4) ∧ ∀ j k H, W1 j k H →
          (J1.stop j H ∧ Nx H) ∨ (J1.go j H ∧ ∃ Nx1 : Hp → Prop, (∀ H', Nx1 H' → ∃ k', k' < k ∧ W1 (j + 1) k' H') ∧ ∀ x H', J1.yld j H x H' → g1 x (wipe σ2 vs1) H' fun σ3 H5 => wipe σ3 vs1 = wipe σ2 vs1 ∧ tt1 σ3 H5 fun b H6 =>
            if b = true then te σ3 H6 fun y H7 => ∃ acc, H7 D = some (.lst acc) ∧ acc.length < sizeLine ∧ Nx1 (upd H7 D (.lst (acc ++ [y]))) else Nx1 H6)
        else Nx H3) := by
  refine ⟨fun i m H => m = xs.length - i ∧ i ≤ xs.length ∧ J i H, ⟨xs.length, by simp, Nat.zero_le _, first⟩, ?_⟩
  rintro i m H ⟨rfl, le, j⟩
  have sq := still i H le j
  rcases Nat.lt_or_ge i xs.length with lt | ge
  · refine .inr ⟨⟨xs, xs[i], sq, by simp [lt]⟩, J (i + 1), fun H' j' => ⟨xs.length - (i + 1), by omega, rfl, lt, j'⟩, fun x H' y => ?_⟩
    obtain ⟨rfl, y⟩ := y
    exact turn i x _ (y xs sq) j
  · obtain rfl : i = xs.length := by omega
    exact .inl ⟨⟨xs, sq, Nat.le_refl _⟩, last H j⟩
theorem lc2_nums {lo : Int} {n : Nat} {g1 : TG} {tt1 : TT} {te : TE} {vs1 : List Nat} {σ2 : L2.St} {H4 : Hp} {D : Addr} {Nx : Hp → Prop} (J : Nat → Hp → Prop) (first : J 0 H4)
    (turn : ∀ j H, j < n → J j H → g1 (.int (lo + (j : Nat))) (wipe σ2 vs1) H fun σ3 H5 => wipe σ3 vs1 = wipe σ2 vs1 ∧ tt1 σ3 H5 fun b H6 =>
      if b = true then te σ3 H6 fun y H7 => ∃ acc, H7 D = some (.lst acc) ∧ acc.length < sizeLine ∧ J (j + 1) (upd H7 D (.lst (acc ++ [y]))) else J (j + 1) H6) (last : ∀ H, J n H → Nx H) :
    ∃ W1 : Nat → Nat → Hp → Prop, (∃ m, W1 0 m H4) ∧ ∀ j k H, W1 j k H →
      ((Itr lo n).stop j H ∧ Nx H) ∨ ((Itr lo n).go j H ∧ ∃ Nx1 : Hp → Prop, (∀ H', Nx1 H' → ∃ k', k' < k ∧ W1 (j + 1) k' H') ∧ ∀ x H', (Itr lo n).yld j H x H' → g1 x (wipe σ2 vs1) H' fun σ3 H5 => wipe σ3 vs1 = wipe σ2 vs1 ∧ tt1 σ3 H5 fun b H6 =>
        if b = true then te σ3 H6 fun y H7 => ∃ acc, H7 D = some (.lst acc) ∧ acc.length < sizeLine ∧ Nx1 (upd H7 D (.lst (acc ++ [y]))) else Nx1 H6) := by
  refine ⟨fun i m H => m = n - i ∧ i ≤ n ∧ J i H, ⟨n, by simp, Nat.zero_le _, first⟩, ?_⟩
  rintro i m H ⟨rfl, le, j⟩
  rcases Nat.lt_or_ge i n with lt | ge
  · refine .inr ⟨lt, J (i + 1), fun H' j' => ⟨n - (i + 1), by omega, rfl, lt, j'⟩, fun x H' y => ?_⟩
    obtain ⟨rfl, rfl⟩ := y
    exact turn i _ lt j
  · obtain rfl : i = n := by omega
    exact .inl ⟨Nat.le_refl _, last H j⟩
/-! ### lists of whole numbers as data -/
def natDat (ns : List Nat) : PyData := .list (ns.map fun n : Nat => .int (n : Int))
theorem nat_dpA {K : PySem.W.Frag} {H : Hp} : ∀ ns : List Nat, DpAll K H (ns.map fun n : Nat => V.int (n : Int)) (ns.map fun n : Nat => PyData.int (n : Int))
  | [] => .nil
  | n :: ns => .cons (.int _) (nat_dpA ns)
theorem nat_dp {K : PySem.W.Frag} {H : Hp} {a : Addr} {ns : List Nat} (e : H a = some (.lst (ns.map fun n : Nat => V.int (n : Int)))) : Dp K H (.ref a) (natDat ns) := .lst (SqL.of e) (nat_dpA ns)
theorem natDat_eqv (ns ms : List Nat) : PyData.eqv (natDat ns) (natDat ms) = decide (ns = ms) := by
  have all : ∀ ns ms : List Nat, PyData.eqvAll (ns.map fun n : Nat => PyData.int (n : Int)) (ms.map fun n : Nat => PyData.int (n : Int)) = decide (ns = ms) := by
    intro ns
    induction ns with
    | nil =>
      intro ms
      cases ms <;> simp [PyData.eqvAll]
    | cons n ns ih =>
      intro ms
      cases ms with
      | nil => simp [PyData.eqvAll]
      | cons m ms =>
        simp only [List.map_cons, PyData.eqvAll, PyData.eqv]
        rw [ih, Bool.eq_iff_iff]
        simp
        exact fun _ => by omega
  simp only [natDat, PyData.eqv]
  exact all ns ms
theorem natDat_shaped (ns : List Nat) : SeqAt.shaped (natDat ns) = true := by
  have lay : ∀ ns : List Nat, PyData.canLayAll0 (ns.map fun n : Nat => PyData.int (n : Int)) = true := by
    intro ns
    induction ns with
    | nil => simp [PyData.canLayAll0]
    | cons n ns ih => simp [PyData.canLayAll0, PyData.canLay0, ih]
  have dep : ∀ ns : List Nat, PyData.depthAll (ns.map fun n : Nat => PyData.int (n : Int)) = 0 := by
    intro ns
    induction ns with
    | nil => simp [PyData.depthAll]
    | cons n ns ih => simp [PyData.depthAll, PyData.depth, ih]
  show (PyData.canLay0 (natDat ns) && decide (PyData.depth (natDat ns) ≤ 64)) = true
  rw [Bool.and_eq_true]
  refine ⟨by simp only [natDat, PyData.canLay0]; exact lay ns, decide_eq_true ?_⟩
  simp only [natDat, PyData.depth]
  rw [dep]
  decide
/-- a list or a tuple of whole numbers -/
def NumSq (H : Hp) (a : Addr) (ns : List Nat) : Prop := H a = some (.lst (ns.map fun n : Nat => V.int (n : Int))) ∨ H a = some (.tup (ns.map fun n : Nat => V.int (n : Int)))
theorem NumSq.keep {a : Addr} {H H' : Hp} {ns : List Nat} (k : Keep H H') (h : NumSq H a ns) : NumSq H' a ns := by
  rcases h with e | e
  · exact .inl (k _ _ (fun q z => by cases z) e)
  · exact .inr (k _ _ (fun q z => by cases z) e)
/-! ### a box and the table change, the rest is kept -/
structure Kb (a P : Addr) (H H' : Hp) : Prop where
  box : ∃ o, H' a = some o ∧ BoxO o
  tab : GxR.TabG H' P
  old : ∀ b o, b ≠ a → b ≠ P → H b = some o → H' b = some o
theorem box_tab {a P : Addr} {H : Hp} (b : ∃ o, H a = some o ∧ BoxO o) (t : GxR.TabG H P) : a ≠ P := by
  obtain ⟨o, e, x0, y0, z0, rfl, _⟩ := b
  exact tab_ne t e (fun q z => by cases z)
theorem Kb.refl {a P : Addr} {H : Hp} (b : ∃ o, H a = some o ∧ BoxO o) (t : GxR.TabG H P) : Kb a P H H := ⟨b, t, fun _ _ _ _ e => e⟩
theorem Kb.kept {a P : Addr} {H H1 H2 : Hp} (x : Kb a P H H1) (y : Kept a H1 H2) : Kb a P H H2 := ⟨y.box, y.tab x.box x.tab, fun b o n m e => y.old b o n (x.old b o n m e)⟩
theorem Kb.nw {a P : Addr} {H H1 H2 : Hp} (x : Kb a P H H1) (y : Nw P H1 H2) : Kb a P H H2 := by
  have n := box_tab x.box x.tab
  obtain ⟨o, e, b⟩ := x.box
  exact ⟨⟨o, y.old a o n e, b⟩, y.tab, fun c u m k q => y.old c u k (x.old c u m k q)⟩
theorem Kb.exd {a P : Addr} {H H1 H2 : Hp} (x : Kb a P H H1) (y : Exd H1 H2) : Kb a P H H2 := x.kept (y.kept x.box)
theorem Kb.trans {a P : Addr} {H H1 H2 : Hp} (x : Kb a P H H1) (y : Kb a P H1 H2) : Kb a P H H2 := ⟨y.box, y.tab, fun b o n m e => y.old b o n m (x.old b o n m e)⟩
theorem Kb.new {a P p : Addr} {H H1 : Hp} {u : HO} (x : Kb a P H H1) (hp : H1 p = none) : Kb a P H (L2.upd H1 p u) := x.exd ((Exd.refl _).new hp)
/-- what was new is changed -/
theorem Kb.put {a P p : Addr} {H H1 : Hp} {u o : HO} (x : Kb a P H H1) (hp : H p = none) (na : p ≠ a) (ho : H1 p = some o) (n : ∀ q, o ≠ .tbl q) : Kb a P H (L2.upd H1 p u) := by
  obtain ⟨o', e, b⟩ := x.box
  exact ⟨⟨o', by rw [upd_ne na.symm]; exact e, b⟩, tab_upd x.tab (fun z => tab_ne x.tab ho n z.symm), fun c v m k q => by rw [upd_ne (ne_of_none q hp)]; exact x.old c v m k q⟩
/-- a box that is new since H0 -/
theorem Kb.toNw {a P : Addr} {H0 H H' : Hp} (x : Kb a P H H') (n : Nw P H0 H) (h : H0 a = none) : Nw P H0 H' :=
  ⟨n.was, x.tab, fun c o m e => x.old c o (fun z => by rw [z, h] at e; cases e) m (n.old c o m e)⟩
theorem RowAt.neBox {a b : Addr} {H : Hp} {r : List Pr} (h : RowAt H b r) (bx : ∃ o, H a = some o ∧ BoxO o) : b ≠ a := fun z => by
  obtain ⟨o, e, x0, y0, z0, rfl, _⟩ := bx
  obtain ⟨qs, e1, p⟩ := h
  rw [z, e] at e1
  have := congrArg (fun u : Option HO => match u with | some (.lst (v :: _)) => some v | _ => none) e1
  cases qs with
  | nil => cases this
  | cons q qs => cases this
theorem PrsAt.kb {a P : Addr} {H H' : Hp} {qs : List Addr} {r : List Pr} (h : PrsAt H qs r) (bx : ∃ o, H a = some o ∧ BoxO o) (t : GxR.TabG H P) (x : Kb a P H H') : PrsAt H' qs r := by
  obtain ⟨o, e, x0, y0, z0, rfl, _⟩ := bx
  exact h.put fun q xs e2 => x.old q _ (fun z => by rw [z, e] at e2; cases e2) (tab_ne t e2 (fun q z => by cases z)) e2
theorem RowAt.kb {a b P : Addr} {H H' : Hp} {r : List Pr} (h : RowAt H b r) (bx : ∃ o, H a = some o ∧ BoxO o) (t : GxR.TabG H P) (x : Kb a P H H') : RowAt H' b r := by
  have nb := h.neBox bx
  obtain ⟨qs, e1, p⟩ := h
  exact ⟨qs, x.old b _ nb (tab_ne t e1 (fun q z => by cases z)) e1, p.kb bx t x⟩
theorem Kb.lst {a b P : Addr} {H H' : Hp} {xs : List V} (x : Kb a P H H') (t : GxR.TabG H P) (n : b ≠ a) (e : H b = some (.lst xs)) : H' b = some (.lst xs) := x.old b _ n (tab_ne t e (fun q z => by cases z)) e
theorem Kb.tup {a b P : Addr} {H H' : Hp} {xs : List V} (x : Kb a P H H') (t : GxR.TabG H P) (n : b ≠ a) (e : H b = some (.tup xs)) : H' b = some (.tup xs) := x.old b _ n (tab_ne t e (fun q z => by cases z)) e
theorem Kb.free {a b P : Addr} {H H' : Hp} (x : Kb a P H H') (e : H' b = none) : H b = none := by
  cases q : H b with
  | none => rfl
  | some o =>
    by_cases z : b = a
    · obtain ⟨o', e', _⟩ := x.box
      rw [z, e'] at e
      cases e
    · by_cases z2 : b = P
      · obtain ⟨ps, e2, _⟩ := x.tab
        rw [z2, e2] at e
        cases e
      · rw [x.old b o z z2 q] at e
        cases e
end LL
namespace LL
open PySem PySem.Spec PyProof.Rows L2
/-! ### len(set(xs)), xs a list or a tuple of unlike texts -/
def upTill (xs : List Str) (i : Nat) : Str → Bool := fun k => (xs.take i).any fun x => x == k
theorem upTill_step {xs : List Str} {i : Nat} {x : Str} (e : xs[i]? = some x) (k : Str) : (upTill xs i k || decide (k = x)) = upTill xs (i + 1) k := by
  unfold upTill
  rw [List.take_add_one, e, List.any_append]
  congr 1
  by_cases q : k = x
  · rw [q]; simp
  · have q' : (x == k) = false := beq_eq_false_iff_ne.mpr fun z => q z.symm
    simp [q, q']
theorem upTill_no {xs : List Str} {i : Nat} {x : Str} (nd : xs.Nodup) (e : xs[i]? = some x) : upTill xs i x = false := by
  obtain ⟨hi, rfl⟩ := List.getElem?_eq_some_iff.mp e
  cases q : upTill xs i xs[i] with
  | false => rfl
  | true =>
    obtain ⟨y, hy, ey⟩ := List.any_eq_true.mp q
    obtain ⟨j, hj⟩ := List.mem_iff_getElem?.mp (eq_of_beq ey ▸ hy)
    rw [List.getElem?_take] at hj
    by_cases l : j < i
    · rw [if_pos l] at hj
      obtain ⟨hj', ej⟩ := List.getElem?_eq_some_iff.mp hj
      exact absurd ej (List.pairwise_iff_getElem.mp nd j i hj' hi l)
    · rw [if_neg l] at hj
      cases hj
section
variable {prog : Program} {w : World} {A : Around}
abbrev SetAt (prog : Program) (w : World) (h : Heap) (S : Addr) (xs : List Str) (i : Nat) : Prop := h.SetOf (PySem.strKind prog w) S (upTill xs i) i
theorem SetAt.move {h h' : Heap} {S : Addr} {xs : List Str} {i : Nat} (x : SetAt prog w h S xs i) (k : ∀ o, h.get? S = some o → h'.get? S = some o) : SetAt prog w h' S xs i := by
  obtain ⟨o, es, ep, t, ho, r⟩ := x
  exact ⟨o, es, ep, t, k o ho, r⟩
/-- one text more -/
theorem set_more {xs : List Str} {S : Addr} {i : Nat} {x : Str} {t : Tok} {s : Shared} {E : Value → Shared → Prop} {Q : Bool → Shared → Prop} (nd : xs.Nodup) (few : xs.length + 1 < scanBound) (e : xs[i]? = some x) (st : SetAt prog w s.heap S xs i)
    (q : ∀ b h' tk, s.toks ≤ tk → Heap.SameBut S s.heap h' → SetAt prog w h' S xs (i + 1) → Q b { s with heap := h', toks := tk }) :
    wpAny (model prog w) A (setAdd S (.str x t)) Q E s := by
  have hi := (List.getElem?_eq_some_iff.mp e).1
  unfold setAdd
  refine wpAny_holding (wpAny_bind ((PySem.strKind prog w).pyHash (k := x) (strKind_is _ _ _ _) ?_))
  refine wpAny_setAddHashed_of (knd := PySem.strKind prog w) (s := { s with toks := s.toks + 1 }) (strKind_is _ _ _ _) rfl st (by omega) fun h' sb so => q _ h' _ (Nat.le_succ _) sb ?_
  exact SetOf_congr so (upTill_step e) (show (if upTill xs i x = true then i else i + 1) = i + 1 by rw [upTill_no nd e]; rfl)
/-- all of them, one by one -/
theorem set_all {R : Result → Shared → Prop} {I S : Addr} {fp wr : List Addr} {G : Array GenState → Array GenState → Prop} {n : Nat} {Pw : Nat → Value → Prop} {St : Nat → Shared → Prop} (W : WalksS prog w A.in1 I fp wr G n Pw St) (out : S ∉ fp) {xs : List Str} (nd : xs.Nodup) (ln : xs.length = n) (few : n + 1 < scanBound)
    (are : ∀ i v, Pw i v → ∃ x t, xs[i]? = some x ∧ v = .str x t) : ∀ (d i : Nat) (s : Shared), n - i = d → i ≤ n → St i s → SetAt prog w s.heap S xs i → (∀ s', Moved (S :: wr) G s s' → SetAt prog w s'.heap S xs n → R (.ok (.ret .none)) s') →
      codeAny (model prog w) A (.builtin "set.update.loop" ⟨[.ref S, .ref I], []⟩) R s := by
  have nw : S ∉ wr := fun z => out (W.sub _ z)
  intro d
  induction d with
  | zero =>
    intro i s e le st sa fin
    obtain rfl : i = n := by omega
    refine codeAny_builtin PyProof.Rows.F.entry_set_update_loop ?_
    rw [Around.under_plainId PyProof.Rows.F.plain_set_update_loop _]; show wpAny _ A.in1 (pyNext (.ref I) >>= _) _ _ s
    exact wpAny_bind (W.done s _ _ st fun s' m => (show wpAny _ A.in1 (ret Value.none) _ _ s' from wpAny_pure (fin s' (m.mono fun b hb => List.mem_cons_of_mem _ hb) (sa.move fun o ho => m.heap S o nw ho))))
  | succ d ih =>
    intro i s e le st sa fin
    have lt : i < n := by omega
    refine codeAny_builtin PyProof.Rows.F.entry_set_update_loop ?_
    rw [Around.under_plainId PyProof.Rows.F.plain_set_update_loop _]; show wpAny _ A.in1 (pyNext (.ref I) >>= _) _ _ s
    refine wpAny_bind (W.item i s _ _ lt st fun v s' pv st' m => ?_)
    obtain ⟨x, t, hx, rfl⟩ := are i v pv
    show wpAny _ A.in1 (holding [Value.str x t] (setAdd S (.str x t)) >>= _) _ _ s'
    refine wpAny_bind (wpAny_holding (set_more nd (by omega) hx (sa.move fun o ho => m.heap S o nw ho) fun b h' tk le2 sb sa' => ?_))
    have keep : ∀ b o, b ≠ S → s'.heap.get? b = some o → h'.get? b = some o := fun b o nb ho => by rw [sb.2 b nb]; exact ho
    refine wpAny_pure ⟨plainId_quiet PyProof.Rows.F.plain_set_update_loop _, ih (i + 1) _ (by omega) lt (W.frame _ s' _ _ st' le2 fun b hb o ho => keep b o (fun z => out (z ▸ hb)) ho) sa' fun s2 m2 sa2 => ?_⟩
    exact fin s2 (Moved.trans W.gtrans ((m.mono fun b hb => List.mem_cons_of_mem _ hb).then_heap le2 fun b o hb ho => keep b o (fun z => hb (z ▸ List.mem_cons_self)) ho) m2) sa2
/-- a list or a tuple -/
abbrev IsA (tp : Bool) (h : Heap) (l : Addr) (items : Array Value) : Prop := if tp = true then h.IsTuple l items else h.IsList l items
theorem strs_get {us : List Value} {xs : List Str} (h : StrsAre us xs) {i : Nat} {v : Value} (e : us[i]? = some v) : ∃ x t, xs[i]? = some x ∧ v = .str x t := by
  induction h generalizing i with
  | nil => cases e
  | cons x t _ ih =>
    cases i with
    | zero => exact ⟨x, t, rfl, (Option.some.inj e).symm⟩
    | succ i => exact ih e
theorem set_init (tp : Bool) {s : Shared} {E : Value → Shared → Prop} {l : Addr} {items : Array Value} {xs : List Str} (hd : A.handled = none) (src : IsA tp s.heap l items) (are : StrsAre items.toList xs) (nd : xs.Nodup) (few : xs.length + 1 < scanBound)
    {led : Bool} {ne : Obj} (hN : ({ cls := .type "set", dict := none, data := .set #[] 0 (.fresh 0 0 led) } : Obj) = ne) :
    wpAny (model prog w) A.in1.in1 (Builtin.«set.__init__» ⟨[.ref s.heap.objs.size, .ref l], []⟩)
      (fun z s' => match z with
        | .done f => wants (fun r s2 => r = .none ∧ ∃ h' tk, s2 = { s with heap := h', toks := tk } ∧ SetAt prog w h' s.heap.objs.size xs xs.length ∧ ∀ b o, s.heap.get? b = some o → h'.get? b = some o) E (.ok f) s'
        | .again c' => c'.quiet = true ∧ codeAny (model prog w) A.in1 c' (wants (fun r s2 => r = .none ∧ ∃ h' tk, s2 = { s with heap := h', toks := tk } ∧ SetAt prog w h' s.heap.objs.size xs xs.length ∧ ∀ b o, s.heap.get? b = some o → h'.get? b = some o) E) s')
      (fun e s' => wants (fun r s2 => r = .none ∧ ∃ h' tk, s2 = { s with heap := h', toks := tk } ∧ SetAt prog w h' s.heap.objs.size xs xs.length ∧ ∀ b o, s.heap.get? b = some o → h'.get? b = some o) E (.error e) s') { s with heap := s.heap.push ne } := by
  have ln : xs.length = items.size := by rw [← StrsAre.len_eq are, Array.length_toList]
  subst hN
  cases tp with
  | false =>
    obtain ⟨⟨oc, od, odt, os⟩, ho, hc, m, hm⟩ := id src
    simp only at hc hm
    subst hc hm
    have ho' := Heap.get?_push_of_some { cls := .type "set", dict := none, data := .set #[] 0 (.fresh 0 0 led) } ho
    have src' : (s.heap.push { cls := .type "set", dict := none, data := .set #[] 0 (.fresh 0 0 led) }).IsList l items := ⟨_, ho', rfl, m, rfl⟩
    have e1 := PySem.F.sub_list_set; have e2 := PySem.F.sub_list_frozenset; have e3 : (Value.type "list" == Value.type "dict") = false := by decide
    unfold Builtin.«set.__init__» noKeywords Builtin.Frozenset.updateFrom; generalize hPI : pyIter = PI
    wp_walk; subst hPI
    refine wpAny_pyIter_list src' (wpAny_bind (wpAny_runValue ?_))
    have lS : l < s.heap.objs.size := Heap.lt_size ho
    have sz : (s.heap.push { cls := .type "set", dict := none, data := .set #[] 0 (.fresh 0 0 led) }).objs.size = s.heap.objs.size + 1 := Heap.size_push ..
    have hd3 : A.in1.in1.in1.handled = none := by simp [hd]
    refine set_all ((Walks.list hd3 _ l (by rw [sz]; exact Nat.ne_of_lt (Nat.lt_succ_of_lt lS)) items).toS) (by rw [sz]; simp only [List.mem_cons, List.not_mem_nil, or_false, not_or]; exact ⟨Nat.ne_of_lt (Nat.lt_succ_self _), Nat.ne_of_gt lS⟩) nd ln (by omega) (fun i v hv => strs_get are (by rw [Array.getElem?_toList]; exact hv)) (items.size - 0) 0 _ rfl (Nat.zero_le _)
      ⟨⟨_, Heap.get?_push_size _ rfl, rfl, rfl⟩, src'.push _⟩ (SetOf_congr ((setObjOf_fresh (knd := PySem.strKind prog w) led).setOf (Heap.get?_push_of_some _ (Heap.get?_push_size _ rfl)) (by unfold scanBound; omega)) (fun _ => rfl) rfl) fun s' mv sa => ?_
    obtain ⟨h', g', d', tk', o'⟩ := s'
    obtain rfl : g' = s.gens := mv.gens
    obtain rfl : d' = s.drawn := mv.drawn
    obtain rfl : o' = s.os := mv.os
    refine wpAny_pure (show wpAny _ _ (ret Value.none) _ _ _ from wpAny_pure ⟨rfl, h', tk', rfl, by rw [ln]; exact sa, fun b o hb => ?_⟩)
    have lb := Heap.lt_size hb
    exact mv.heap b o (by rw [sz]; simp only [List.mem_cons, List.not_mem_nil, or_false, not_or]; exact ⟨Nat.ne_of_lt lb, Nat.ne_of_lt (Nat.lt_succ_of_lt lb)⟩) (Heap.get?_push_of_some _ (Heap.get?_push_of_some _ hb))
  | true =>
    obtain ⟨⟨oc, od, odt, os⟩, ho, hc, m, hm⟩ := id src
    simp only at hc hm
    subst hc hm
    have ho' := Heap.get?_push_of_some { cls := .type "set", dict := none, data := .set #[] 0 (.fresh 0 0 led) } ho
    have src' : (s.heap.push { cls := .type "set", dict := none, data := .set #[] 0 (.fresh 0 0 led) }).IsTuple l items := ⟨_, ho', rfl, m, rfl⟩
    have e1 := PySem.F.sub_tuple_set; have e2 := PySem.F.sub_tuple_frozenset; have e3 : (Value.type "tuple" == Value.type "dict") = false := by decide
    unfold Builtin.«set.__init__» noKeywords Builtin.Frozenset.updateFrom; generalize hPI : pyIter = PI
    wp_walk; subst hPI
    refine wpAny_pyIter_tuple src' (wpAny_bind (wpAny_runValue ?_))
    have lS : l < s.heap.objs.size := Heap.lt_size ho
    have sz : (s.heap.push { cls := .type "set", dict := none, data := .set #[] 0 (.fresh 0 0 led) }).objs.size = s.heap.objs.size + 1 := Heap.size_push ..
    have hd3 : A.in1.in1.in1.handled = none := by simp [hd]
    refine set_all ((Walks.tuple hd3 _ l (by rw [sz]; exact Nat.ne_of_lt (Nat.lt_succ_of_lt lS)) items).toS) (by rw [sz]; simp only [List.mem_cons, List.not_mem_nil, or_false, not_or]; exact ⟨Nat.ne_of_lt (Nat.lt_succ_self _), Nat.ne_of_gt lS⟩) nd ln (by omega) (fun i v hv => strs_get are (by rw [Array.getElem?_toList]; exact hv)) (items.size - 0) 0 _ rfl (Nat.zero_le _)
      ⟨⟨_, Heap.get?_push_size _ rfl, rfl, rfl⟩, src'.push _⟩ (SetOf_congr ((setObjOf_fresh (knd := PySem.strKind prog w) led).setOf (Heap.get?_push_of_some _ (Heap.get?_push_size _ rfl)) (by unfold scanBound; omega)) (fun _ => rfl) rfl) fun s' mv sa => ?_
    obtain ⟨h', g', d', tk', o'⟩ := s'
    obtain rfl : g' = s.gens := mv.gens
    obtain rfl : d' = s.drawn := mv.drawn
    obtain rfl : o' = s.os := mv.os
    refine wpAny_pure (show wpAny _ _ (ret Value.none) _ _ _ from wpAny_pure ⟨rfl, h', tk', rfl, by rw [ln]; exact sa, fun b o hb => ?_⟩)
    have lb := Heap.lt_size hb
    exact mv.heap b o (by rw [sz]; simp only [List.mem_cons, List.not_mem_nil, or_false, not_or]; exact ⟨Nat.ne_of_lt lb, Nat.ne_of_lt (Nat.lt_succ_of_lt lb)⟩) (Heap.get?_push_of_some _ (Heap.get?_push_of_some _ hb))
theorem call_set_texts (tp : Bool) {s : Shared} {E : Value → Shared → Prop} {l : Addr} {items : Array Value} {xs : List Str} {Q : Value → Shared → Prop} (hd : A.handled = none) (src : IsA tp s.heap l items) (are : StrsAre items.toList xs) (nd : xs.Nodup) (few : xs.length + 1 < scanBound)
    (q : ∀ (h' : Heap) (tk : Nat), SetAt prog w h' s.heap.objs.size xs xs.length → (∀ b o, s.heap.get? b = some o → h'.get? b = some o) → Q (.ref s.heap.objs.size) { s with heap := h', toks := tk }) :
    wpAny (model prog w) A (call (.type "set") [.ref l]) Q E s := by
  obtain ⟨c, tl, hmro⟩ := PySem.F.called_set.mro
  have k1 := PySem.F.called_set.made; have k2 := PySem.F.called_set.sub; have k3 := PySem.F.called_set.notType; have k4 := PySem.F.called_set.canCreate
  have k5 := PySem.F.typeCall_set_1 (.ref l)
  refine wpAny_call (codeAny_of_tree (show wpAny _ _ (callAny (.type "set") _) _ _ _ from ?_))
  refine wpAny_pure ⟨Code.quiet_builtin _ (by decide +kernel), codeAny_builtin PySem.F.entry_type_call ?_⟩
  rw [Around.under_plain (weight_type_call_type "set" [.ref l] []) rfl]; repeat (any_goals (first | assumption | wp_step))
  refine codeAny_mono (code_set_new_1 (.ref l) (E := E) (Q₁ := fun ob s1 => ∃ led : Bool, ob = .ref s.heap.objs.size ∧ s1 = { s with heap := s.heap.push { cls := .type "set", dict := none, data := .set #[] 0 (.fresh 0 0 led) } }) fun led => ⟨led, rfl, rfl⟩) fun r s1 hr => ?_
  rcases r with e | fl
  · exact hr
  cases fl with
  | ret ob =>
    obtain ⟨led, rfl, rfl⟩ := hr
    generalize hN : ({ cls := .type "set", dict := none, data := .set #[] 0 (.fresh 0 0 led) } : Obj) = ne
    have eN : (s.heap.push ne).get? s.heap.objs.size = some ne := Heap.get?_push_size _ (by subst hN; rfl)
    have tN : Shared.TypeIs { s with heap := s.heap.push ne } (.ref s.heap.objs.size) "set" := ⟨_, eN, by subst hN; rfl⟩
    have k6 := PySem.F.called_set.init.lookup; have k7 := PySem.F.called_set.init.bind (.ref s.heap.objs.size)
    repeat (any_goals (first | assumption | wp_step))
    refine codeAny_mono (codeAny_call_builtin (R := wants (fun r s2 => r = .none ∧ ∃ h' tk, s2 = { s with heap := h', toks := tk } ∧ SetAt prog w h' s.heap.objs.size xs xs.length ∧ ∀ b o, s.heap.get? b = some o → h'.get? b = some o) E) PySem.F.called_set.init.plain PySem.F.entry_set_init (check_set_init_1 tN ?_)) fun r2 s2 hr2 => ?_
    · exact set_init tp hd src are nd few hN
    · rcases r2 with e | f2
      · exact hr2
      cases f2 with
      | ret r =>
        obtain ⟨rfl, h', tk, rfl, sa, keep⟩ := hr2
        repeat (any_goals (first | assumption | wp_step))
        exact q h' tk sa keep
      | _ => exact hr2.elim
  | _ => exact hr.elim
end
section
variable {X : Cx}
/-- len(set(xs)) of unlike texts -/
def tLenTxt (K : PySem.W.Frag) (ta : TE) : TE := fun σ H Q => ta σ H fun x H1 => ∃ (l : Addr) (xs : List Str), x = .ref l ∧ (SqL K H1 l (xs.map V.str) ∨ SqT K H1 l (xs.map V.str)) ∧ xs.Nodup ∧ xs.length ≤ 1000 ∧ Q (.int xs.length) H1
theorem strs_vals : ∀ {ys : List Str} {us : List Value}, Vals (ys.map V.str) us → StrsAre us ys
  | [], _, .nil => .nil
  | y :: ys, _, .cons ⟨k, e⟩ t => e ▸ .cons y k (strs_vals t)
theorem pe_lenTxt {a : Expr} {ta : TE} {p p2 q pos : Pos} (hc : X.calm = true) (g1 : Gl X "len") (m1 : X.mg "len" = none) (g2 : Gl X "set") (m2 : X.mg "set" = none) (ha : PE X a ta)
    (n1 : starEach [a] X.env = (false, eval a X.env) :: starEach [] X.env := by rfl) : PE X (.Call (.Name "len" p) [.Call (.Name "set" p2) [a] [] q] [] pos) (tLenTxt X.K ta) := by
  refine ⟨fun pins s σ H Q I h => Call_ (ld_blt I g1 m1 boot_len (callWith_builtin1 (args_cons (Call_ (ld_blt I g2 m2 boot_set (callWith_type1 (args_cons (thn (ha.run pins s σ H _ I h) fun v s1 ⟨x, H1, J, r1, want⟩ => args_nil ?_) n1) n1 rfl))) rfl) rfl rfl))⟩
  obtain ⟨l, xs, rfl, sq, nd, few, want⟩ := want
  obtain rfl : v = Value.ref l := r1
  have few2 : xs.length + 1 < scanBound := by unfold scanBound; omega
  have fin : ∀ (h' : Heap) (tk : Nat), SetAt X.prog X.w h' s1.heap.objs.size xs xs.length → (∀ b o, s1.heap.get? b = some o → h'.get? b = some o) →
      wpAny (model X.prog X.w) X.A (spliced (backTo pos (starEach [] X.env))) (fun vs s2 => wpAny (model X.prog X.w) X.A (call (.builtin "len") (Value.ref s1.heap.objs.size :: vs)) (EP X pins σ Q) X.xe s2) X.xe { s1 with heap := h', toks := tk } := fun h' tk sa keep => args_nil (by
    obtain ⟨o, es, ep, t, ho, hex, hdt, _, _, _, hf, hn⟩ := sa
    exact call_len_set ho hex hdt hf (by rw [hn]; omega) ⟨.int xs.length, H1, (J.kept (t' := tk) keep).tok _, ⟨_, by rw [hn]⟩, want⟩)
  rcases sq with sq | sq
  · obtain ⟨its, rs, pl, _⟩ := J.list sq
    exact call_set_texts false (J.ok.hd hc) pl.isList (by simpa using strs_vals rs) nd few2 fin
  · obtain ⟨its, rs, pl, _⟩ := J.tuple sq
    exact call_set_texts true (J.ok.hd hc) (show s1.heap.IsTuple l its.toArray from pl) (by simpa using strs_vals rs) nd few2 fin
end
end LL
namespace LL
open PySem PySem.Spec PyProof.Rows L2
/-! ### enumerate(t), t a tuple -/
theorem meets_enum_tup (l : Addr) (items : Array Value) :
    Meets (Builtin.«enumerate.__new__» ⟨[.type "enumerate", .ref l], []⟩) (fun _ R s => s.heap.IsTuple l items ∧
      R (.ok (.ret (.ref (s.heap.push { cls := .type "tuple_iterator", data := .fields #[.ref l, .int 0 0] }).objs.size)))
        { s with heap := (s.heap.push { cls := .type "tuple_iterator", data := .fields #[.ref l, .int 0 0] }).push { cls := .type "enumerate", data := .fields #[.none, .bool false, .ref s.heap.objs.size, rawInt 0, .none, .none] } }) :=
  .of_wp fun prog w A R s h => by
    obtain ⟨hp, g, d, tk, os⟩ := s; obtain ⟨it, h⟩ := h
    have sub := sub_enumerate
    have go : ∀ {A' : Around} {E : Value → Shared → Prop} {Q : Value → Shared → Prop}, Q (.ref hp.objs.size) ⟨hp.push { cls := .type "tuple_iterator", data := .fields #[.ref l, .int 0 0] }, g, d, tk, os⟩ → wpAny (model prog w) A' (pyIter (.ref l)) Q E ⟨hp, g, d, tk, os⟩ :=
      fun q => wpAny_pyIter_tuple it q
    wp_walk using go; refine wpAny_stack_any fun st => wpAny_pure ?_
    split
    · rename_i c _ _ _ _ _
      cases (c == Value.type "enumerate") <;> (wp_walk using go; exact ⟨_, rfl, h⟩)
    · wp_walk using go; exact ⟨_, rfl, h⟩
theorem call_enum_tup {prog : Program} {w : World} {A : Around} {E : Value → Shared → Prop} {s : Shared} {l : Addr} {items : Array Value} {Q : Value → Shared → Prop} (it : s.heap.IsTuple l items)
    (q : ∀ h', IsEnum h' (s.heap.objs.size + 1) s.heap.objs.size 0 .none → h'.IsTupleIter s.heap.objs.size l 0 → (∀ b o, s.heap.get? b = some o → h'.get? b = some o) → Q (.ref (s.heap.objs.size + 1)) { s with heap := h' }) :
    wpAny (model prog w) A (call (.type "enumerate") [.ref l]) Q E s := by
  refine callType_new F.called_enumerate (by decide) (F.typeCall_enumerate_1 _) (F.newCall_enumerate_1 _) (fun ob => F.args_object_init_2 ob _) F.entry_enumerate_new (meets_enum_tup l items) ⟨it, ?_⟩
  have sz : (s.heap.push { cls := .type "tuple_iterator", data := .fields #[.ref l, .int 0 0] }).objs.size = s.heap.objs.size + 1 := Heap.size_push ..
  have e1 := Heap.get?_push_size (s.heap.push { cls := .type "tuple_iterator", data := .fields #[.ref l, .int 0 0] }) (o := { cls := .type "enumerate", data := .fields #[.none, .bool false, .ref s.heap.objs.size, rawInt 0, .none, .none] }) rfl
  rw [sz] at e1 ⊢
  exact ⟨⟨_, e1, rfl⟩, q _ e1 ⟨_, Heap.get?_push_of_some _ (Heap.get?_push_size _ rfl), rfl, rfl⟩ fun b o x => Heap.get?_push_of_some _ (Heap.get?_push_of_some _ x)⟩
/-- the tuple at a, each item in a new pair -/
def IteT (K : PySem.W.Frag) (a : Addr) : It :=
  ⟨fun i H => ∃ (xs : List V) (x : V), SqT K H a xs ∧ xs[i]? = some x, fun i H v H' => ∃ T x, v = .ref T ∧ H T = none ∧ H' = upd H T (.tup [.int (i : Nat), x]) ∧ ∀ xs, SqT K H a xs → xs[i]? = some x, fun i H => ∃ xs : List V, SqT K H a xs ∧ xs.length = i⟩
theorem turn_enumT {P : Program} {w : World} {K : PySem.W.Frag} {elts : List Expr} {kk : Nat} {tpos : Pos} (a e it : Addr) (na : a ≠ it) (nea : e ≠ a) :
    Turn P w K (.Tuple elts kk tpos) (IteT K a) [e, it] e (fun i h => (∃ old, IsEnum h e it ((i : Nat) : Int) old) ∧ h.IsTupleIter it a i ∧ e ≠ it) where
  mem := List.mem_cons_self
  obj := fun i h st b hb => by
    obtain ⟨⟨old, he⟩, ⟨o, ho, hc, hd⟩, _⟩ := st
    rcases List.mem_cons.mp hb with rfl | hb
    · exact ⟨_, he, fun v z => nomatch z⟩
    · obtain rfl := List.mem_singleton.mp hb
      exact ⟨o, ho, fun v z => by rw [hd] at z; cases z⟩
  keep := fun i h h' ⟨⟨old, he⟩, hi, ne⟩ k => ⟨⟨old, k e List.mem_cons_self _ he⟩, hi.at fun o q => k it (List.mem_cons_of_mem _ List.mem_cons_self) o q, ne⟩
  item := by
    intro X hP hw hK hc i pins s σ H E I hf st hg
    subst hP hw hK
    obtain ⟨⟨old, he⟩, hit, ne⟩ := st
    obtain ⟨xs, x, sq, hx⟩ := hg
    obtain ⟨its, rv, pl, _⟩ := I.tuple sq
    obtain ⟨u, hu, ru⟩ := rv.get hx
    have lt : i < its.toArray.size := by rw [List.size_toArray]; exact (List.getElem?_eq_some_iff.mp hu).1
    have le : e < s.heap.objs.size := Heap.lt_size he
    have li : it < s.heap.objs.size := by obtain ⟨_, q, _⟩ := hit; exact Heap.lt_size q
    have hd : X.A.in1.handled = none := by
      have := I.ok.hd hc
      simpa using this
    refine wpAny_pyNext_enum_itemD (Draws.tuple hd it a na its.toArray) he ⟨hit, pl⟩ lt ne (by
      simp only [List.mem_cons, List.not_mem_nil, or_false, not_or]
      exact ⟨ne, nea⟩) fun x' h' tk hP' ho st' hT hsz hk => ?_
    obtain rfl : x' = u := by
      have hP' : its.toArray[i]? = some x' := hP'
      rw [← Array.getElem?_toList] at hP'
      exact Option.some.inj (hP'.symm.trans hu)
    refine ⟨_, rfl, wpAny_letOwnedTupleGo_enum (s := { s with heap := h', toks := tk + 1 }) ho fun h2 he2 sb => ?_⟩
    have hT2 : h2.get? s.heap.objs.size = some { cls := .type "tuple", data := .seq #[.int i tk, x'] } := (sb.2 _ (Nat.ne_of_gt le)).trans hT
    have new : ObjOk X.prog X.w (upd H s.heap.objs.size (.tup [.int (i : Nat), x])) h2 s.heap.objs.size (.tup [.int (i : Nat), x]) :=
      ⟨by show 2 ≤ sizeLine; decide, [.int i tk, x'], .cons ⟨_, rfl⟩ (.cons ru .nil), ⟨_, hT2, rfl, _, rfl⟩⟩
    have I1 : Inv X pins σ (upd H s.heap.objs.size (.tup [.int (i : Nat), x])) { s with heap := h2, toks := tk + 1 } :=
      I.turnedNew (ch := [e, it]) (fun b o hb q => (sb.2 b fun z => hb (z ▸ List.mem_cons_self)).trans (hk b o (fun z => hb (z ▸ List.mem_cons_self)) (fun z => hb (z ▸ List.mem_cons_of_mem _ List.mem_cons_self)) q)) hf (Nat.le_refl _) new
    refine ⟨.ref s.heap.objs.size, _, I1, rfl, ⟨_, x, rfl, I.hok.fresh (Nat.le_refl _), rfl, fun ys hy => by rw [I.tuple_inj hy sq]; exact hx⟩, ⟨⟨x', ?_⟩, st'.1.at fun o q => (sb.2 it (Ne.symm ne)).trans q, ne⟩, fun b hb => ?_⟩
    · rw [show ((i + 1 : Nat) : Int) = (i : Int) + 1 by omega]
      exact he2
    · have lb : b < s.heap.objs.size := by
        rcases List.mem_cons.mp hb with rfl | hb
        · exact le
        · obtain rfl := List.mem_singleton.mp hb
          exact li
      rw [upd_ne (Nat.ne_of_lt lb)]
      exact (hf b hb).1
  done := by
    intro X hP hw hK hc i pins s σ H E I hf st hg
    subst hP hw hK
    obtain ⟨⟨old, he⟩, hit, ne⟩ := st
    obtain ⟨xs, sq, hx⟩ := hg
    obtain ⟨its, rv, pl, _⟩ := I.tuple sq
    obtain ⟨f0, f1, f2, f3, f4, f5⟩ := hf it (List.mem_cons_of_mem _ List.mem_cons_self)
    have hd : X.A.in1.handled = none := by
      have := I.ok.hd hc
      simpa using this
    have ln : its.toArray.size = i := by rw [List.size_toArray, ← rv.length]; exact hx
    exact wpAny_pyNext_enum_endD (Draws.tuple hd it a na its.toArray) he (by rw [ln]; exact ⟨hit, pl⟩) fun h' eb => ⟨rfl, I.turned (t' := s.toks) (fun b o hb q => eb b o hb q) f0 f1 f3 f4 f5⟩
  self := fun A i s Q E ⟨⟨_, he⟩, _⟩ h => wpAny_pyIter_enum he h
def iEnumT (K : PySem.W.Frag) (ta : TA) : TI := fun σ H R => ta σ H fun vs H1 => ∃ a xs, vs = [.ref a] ∧ SqT K H1 a xs ∧ R (IteT K a) H1
theorem pi_enumT {X : Cx} {e : Expr} {ta : TA} {p pos tpos : Pos} {elts : List Expr} {kk : Nat} (hg : Gl X "enumerate") (hm : X.mg "enumerate" = none) (ha : PA X [e] ta) (hs : starEach [e] X.env = [(false, eval e X.env)] := by rfl) :
    PI X (.Tuple elts kk tpos) (.Call (.Name "enumerate" p) [e] [] pos) (iEnumT X.K ta) := by
  refine ⟨fun pins s σ H R I h => Call_ (ld_blt I hg hm boot_enumerate (callWith_type1 (thn (ha.run pos pins s σ H _ I h) fun us s1 ⟨vs, H1, J, rv, a, xs, ex, sq, want⟩ => ?_) hs rfl))⟩
  subst ex
  cases rv with
  | cons r rr =>
    cases rr
    cases r
    obtain ⟨its, rs, pl, _⟩ := J.tuple sq
    have pl' : s1.heap.IsTuple a its.toArray := pl
    have la : a < s1.heap.objs.size := by
      obtain ⟨o, ho, _⟩ := pl'
      exact Heap.lt_size ho
    refine call_enum_tup pl' fun h' he hit keep => wpAny_pyIter_enum he ?_
    refine ⟨s1.heap.objs.size + 1, [s1.heap.objs.size + 1, s1.heap.objs.size], _, _, H1, rfl, J.kept (t' := s1.toks) keep, turn_enumT a (s1.heap.objs.size + 1) s1.heap.objs.size (Nat.ne_of_lt la) (Nat.ne_of_gt (Nat.lt_succ_of_lt la)), ⟨⟨.none, he⟩, hit, Nat.succ_ne_self _⟩, fun b hb => ?_, want⟩
    have le : s1.heap.objs.size ≤ b := by
      rcases List.mem_cons.mp hb with rfl | hb
      · exact Nat.le_succ _
      · obtain rfl := List.mem_singleton.mp hb
        exact Nat.le_refl _
    exact J.fpOk le (J.hok.fresh le)
/-! ### one rule or the other -/
theorem pe_or {X : Cx} {e : Expr} {t u : TE} (h : PE X e t) (g : PE X e u) : PE X e (fun σ H Q => t σ H Q ∨ u σ H Q) :=
  ⟨fun pins s σ H Q I q => q.elim (fun q => h.run pins s σ H Q I q) fun q => g.run pins s σ H Q I q⟩
theorem pi_or {X : Cx} {tg e : Expr} {t u : TI} (h : PI X tg e t) (g : PI X tg e u) : PI X tg e (fun σ H R => t σ H R ∨ u σ H R) :=
  ⟨fun pins s σ H R I q => q.elim (fun q => h.run pins s σ H R I q) fun q => g.run pins s σ H R I q⟩
end LL
namespace LL
open PySem PySem.Spec PyProof.Rows L2
/-! ### tuple(d): its keys -/
section
variable {prog : Program} {w : World} {A : Around} {E : Value → Shared → Prop} {s : Shared} {r d : Addr} {n : Nat} {Pk : Nat → Value → Prop} {OK : Heap → Prop}
theorem gather_keys {Q : List Value → Shared → Prop} (K : PySem.W.KdlSrc prog w "dict" r d n Pk OK) (hd : A.handled = none) (ok : OK s.heap) (few : n ≤ sizeLine)
    (q : ∀ (h' : Heap) (tk : Nat) (acc : Array Value), (∀ b o, s.heap.get? b = some o → h'.get? b = some o) → ItemsOf Pk acc n → Q acc.toList { s with heap := h', toks := tk }) :
    wpAny (model prog w) A (collect (.ref r)) Q E s := by
  obtain ⟨lr, ld⟩ := K.there _ ok
  have eS : (s.heap.push { cls := .type "list", data := .seq ([] : List Value).toArray }).get? s.heap.objs.size = some { cls := .type "list", data := .seq #[] 0 } := Heap.get?_push_size _ rfl
  unfold collect
  refine wpAny_bind (wpAny_runValue (codeAny_builtin F.entry_proto_collect ?_))
  rw [Around.under_plainId F.plain_proto_collect _]; show wpAny _ A.in1 (newList [] >>= fun l => again (.builtin "list.__iadd__" ⟨[l, .ref r], []⟩)) _ _ s
  refine wpAny_bind (wpAny_newObj_type (wpAny_pure ⟨plainId_quiet F.plain_list_iadd _, codeAny_builtin F.entry_list_iadd ?_⟩))
  rw [Around.under_plainId F.plain_list_iadd _]; show wpAny _ A.in1 (Builtin.List.listExtendWith (.ref s.heap.objs.size) (.ref r) (.ref s.heap.objs.size)) _ _ _
  refine wpAny_mono (PySem.W.kdl_extend (A := A) (R := fun rr s' => rr = .ok (.ret (.ref s.heap.objs.size)) ∧ ∃ (h' : Heap) (tk : Nat) (acc : Array Value) (c' : Nat), s' = { s with heap := h', toks := tk } ∧ (∀ b o, s.heap.get? b = some o → h'.get? b = some o) ∧ h'.get? s.heap.objs.size = some { cls := .type "list", dict := none, data := .seq acc c', slots := #[] } ∧ ItemsOf Pk acc n)
    (s := { s with heap := s.heap.push { cls := .type "list", data := .seq ([] : List Value).toArray } }) K hd (K.keep _ _ ok fun b _ o e => Heap.get?_push_of_some _ e) _ (Nat.ne_of_gt lr) (Nat.ne_of_gt ld) _ 0 eS
    (fun h' tk acc c' keep e its => ⟨rfl, h', tk, acc, c', rfl, fun b o z => keep b o (Nat.ne_of_lt (Heap.lt_size z)) (Heap.get?_push_of_some _ z), e, its⟩) few) (fun z s' h => ?_) (fun e s' h => absurd h.1 (by simp))
  cases z with
  | done f =>
    obtain ⟨e, rest⟩ := h
    cases e
    obtain ⟨h', tk, acc, c', e, keep, eS', its⟩ := rest
    subst e
    show wpAny _ A (load s.heap.objs.size >>= _) _ _ _
    exact wpAny_bind (wpAny_load eS' (wpAny_pure (q h' tk acc keep its)))
  | again c' =>
    refine ⟨h.1, codeAny_mono h.2 fun rr s2 hr => ?_⟩
    obtain ⟨rfl, h', tk, acc, c', e, keep, eS', its⟩ := hr
    subst e
    show wpAny _ A (load s.heap.objs.size >>= _) _ _ _
    exact wpAny_bind (wpAny_load eS' (wpAny_pure (q h' tk acc keep its)))
theorem call_tuple_keys {Q : Value → Shared → Prop} (K : PySem.W.KdlSrc prog w "dict" r d n Pk OK) (hd : A.handled = none) (ok : OK s.heap) (few : n ≤ sizeLine)
    (q : ∀ (h' : Heap) (tk : Nat) (acc : Array Value), (∀ b o, s.heap.get? b = some o → h'.get? b = some o) → ItemsOf Pk acc n → Q (.ref h'.objs.size) { s with heap := h'.push { cls := .type "tuple", data := .seq acc }, toks := tk }) :
    wpAny (model prog w) A (call (.type "tuple") [.ref r]) Q E s := by
  have made : codeAny (model prog w) A.in1 (.call (.builtin "tuple.__new__") ⟨[.type "tuple", .ref r], []⟩) (wants (fun ob s1 => s1.TypeIs ob "tuple" ∧ Q ob s1) E) s := by
    refine codeAny_of_tree ?_
    show wpAny _ A.in1.in1 (do checkBuiltinCall "tuple.__new__" ⟨[.type "tuple", .ref r], []⟩; again (.builtin "tuple.__new__" ⟨[.type "tuple", .ref r], []⟩)) _ _ s
    refine wpAny_bind (wpAny_of_eq (F.newCall_tuple_1 _) (wpAny_pure ⟨plainId_quiet F.plain_tuple_new _, codeAny_builtin F.entry_tuple_new ?_⟩))
    rw [Around.under_plainId F.plain_tuple_new _]
    have e1 := sub_tuple_self; have e2 := init_tuple_lookup; have e3 := madeHere_tuple
    have tI := K.type s ok
    have hd2 : A.in1.in1.handled = none := by simp [hd]
    wp_walk using wpAny_typeOf tI, gather_keys (A := A.in1.in1) K hd2 ok few
    intro h' tk acc keep its
    have ea : acc.toList.toArray = acc := by simp
    show wpAny _ _ (Builtin.Tuple.tupleExact acc.toList.toArray >>= fun v => ret v) _ _ _
    unfold Builtin.Tuple.tupleExact
    rw [ea]
    exact wpAny_bind (wpAny_newObj_type (wpAny_pure ⟨⟨_, Heap.get?_push_size _ rfl, rfl⟩, q h' tk acc keep its⟩) (by show acc.size ≤ sizeLine; rw [its.1]; exact few))
  exact callType_codes (Q₁ := fun ob s1 => s1.TypeIs ob "tuple" ∧ Q ob s1) F.called_tuple (F.typeCall_tuple_1 _) F.entry_object_init made fun ob s1 h1 => ⟨h1.1, F.args_object_init_2 ob _, object_init_meets F.called_tuple.init.lookup F.called_tuple.made (by decide) prog w A.in1 _ s1 ⟨h1.1, rfl, h1.2⟩⟩
end
theorem call_tupleD {X : Cx} (hc : X.calm = true) : CallR X (.type "tuple") (fun xs H Q => ∃ (a : Addr) (kvs : List (Key × V)), xs = [.ref a] ∧ Rd H a (.dK kvs) ∧ ∀ p, H p = none → Q (.ref p) (upd H p (.tup (kvs.map fun kv => kV kv.1)))) := by
  intro pins s σ H xs us Q I r ⟨a, kvs, ex, hd, q⟩
  subst ex
  obtain ⟨u, eu, rx⟩ := vals1 r
  subst eu
  cases rx
  obtain ⟨z, lo, vs, rel, dd⟩ := dk_rd I.hok hd
  obtain ⟨ep, hat⟩ := dd.dictAt
  have ek : (kvs.map fun kv => kV kv.1) = vs.map fun p => kV p.1 := by
    have := congrArg (List.map kV) rel.keys
    rwa [List.map_map, List.map_map] at this
  refine call_tuple_keys (PySem.W.kdl_dict (knd := mixKind X.prog X.w) (kvs := vs) (ep := ep) lo) (I.ok.hd hc) hat (by rw [← rel.length]; exact z) fun h' tk acc keep its => ?_
  have hv : Vals (vs.map fun p => kV p.1) acc.toList := keys_at (by rw [Array.length_toList]; exact its.1) fun j v e => its.2 j v (by rw [← Array.getElem?_toList]; exact e)
  have I1 : Inv X pins σ H { s with heap := h', toks := tk } := I.kept keep
  exact ⟨.ref h'.objs.size, upd H h'.objs.size (.tup (kvs.map fun kv => kV kv.1)), I1.laid (t' := tk) (fun b o e => Heap.get?_push_of_some _ e) (Nat.le_refl _)
    (show ObjOk X.prog X.w _ _ _ (.tup (kvs.map fun kv => kV kv.1)) from ⟨by rw [List.length_map]; exact z, acc.toList, by rw [ek]; exact hv, by rw [Array.toArray_toList]; exact IsTup.new _ _⟩), rfl, q _ (I1.hok.fresh (Nat.le_refl _))⟩
end LL
namespace LL
open PySem PySem.Spec PyProof.Rows L2
/-! ### several tables of code -/
structure Nws (Ps : List Addr) (H H' : Hp) : Prop where
  was : ∀ P ∈ Ps, GxR.TabG H P
  tab : ∀ P ∈ Ps, GxR.TabG H' P
  old : ∀ b o, b ∉ Ps → H b = some o → H' b = some o
theorem Nws.refl {Ps : List Addr} {H : Hp} (h : ∀ P ∈ Ps, GxR.TabG H P) : Nws Ps H H := ⟨h, h, fun _ _ _ e => e⟩
theorem Nws.trans {Ps : List Addr} {H H1 H2 : Hp} (x : Nws Ps H H1) (y : Nws Ps H1 H2) : Nws Ps H H2 := ⟨x.was, y.tab, fun b o n e => y.old b o n (x.old b o n e)⟩
theorem Nws.of {Ps : List Addr} {P : Addr} {H H' : Hp} (h : ∀ P ∈ Ps, GxR.TabG H P) (m : P ∈ Ps) (t : GxR.Tabbed P H H') : Nws Ps H H' := by
  refine ⟨h, fun R hR => ?_, fun b o n e => by rw [t.2 b (fun z => n (z ▸ m))]; exact e⟩
  by_cases z : R = P
  · rw [z]
    exact t.1
  · obtain ⟨ps, e, tr⟩ := h R hR
    exact ⟨ps, by rw [t.2 R z]; exact e, tr⟩
theorem tabs_ne {Ps : List Addr} {a : Addr} {H : Hp} {o : HO} (h : ∀ P ∈ Ps, GxR.TabG H P) (e : H a = some o) (n : ∀ q, o ≠ .tbl q) : a ∉ Ps := fun z => tab_ne (h a z) e n rfl
theorem tabs_new {Ps : List Addr} {p : Addr} {H : Hp} {u : HO} (h : ∀ P ∈ Ps, GxR.TabG H P) (hp : H p = none) : ∀ P ∈ Ps, GxR.TabG (L2.upd H p u) P := fun P hP => tab_upd (h P hP) (tab_free (h P hP) hp)
theorem Nws.new {Ps : List Addr} {p : Addr} {H H1 : Hp} {u : HO} (x : Nws Ps H H1) (hp : H1 p = none) : Nws Ps H (L2.upd H1 p u) :=
  ⟨x.was, tabs_new x.tab hp, fun c v n q => by rw [upd_ne (ne_of_none (x.old c v n q) hp)]; exact x.old c v n q⟩
theorem Nws.put {Ps : List Addr} {p : Addr} {H H1 : Hp} {u o : HO} (x : Nws Ps H H1) (hp : H p = none) (ho : H1 p = some o) (n : ∀ q, o ≠ .tbl q) : Nws Ps H (L2.upd H1 p u) :=
  ⟨x.was, fun P hP => tab_upd (x.tab P hP) (fun z => tab_ne (x.tab P hP) ho n z.symm), fun c v m q => by rw [upd_ne (ne_of_none q hp)]; exact x.old c v m q⟩
theorem Nws.get {Ps : List Addr} {a : Addr} {H H' : Hp} {o : HO} (x : Nws Ps H H') (e : H a = some o) (n : ∀ q, o ≠ .tbl q) : H' a = some o := x.old a o (tabs_ne x.was e n) e
theorem Nws.lst {Ps : List Addr} {a : Addr} {H H' : Hp} {xs : List V} (x : Nws Ps H H') (e : H a = some (.lst xs)) : H' a = some (.lst xs) := x.get e (fun q z => by cases z)
theorem Nws.tup {Ps : List Addr} {a : Addr} {H H' : Hp} {xs : List V} (x : Nws Ps H H') (e : H a = some (.tup xs)) : H' a = some (.tup xs) := x.get e (fun q z => by cases z)
theorem Nws.keep {Ps : List Addr} {H H' : Hp} (x : Nws Ps H H') : Keep H H' := fun b o n e => x.get e n
theorem Nws.free {Ps : List Addr} {a : Addr} {H H' : Hp} (x : Nws Ps H H') (e : H' a = none) : H a = none := by
  cases q : H a with
  | none => rfl
  | some o =>
    by_cases z : a ∈ Ps
    · obtain ⟨ps, e2, _⟩ := x.tab a z
      rw [e2] at e
      cases e
    · rw [x.old a o z q] at e
      cases e
theorem Exd.nws {Ps : List Addr} {H H' : Hp} (x : Exd H H') (t : ∀ P ∈ Ps, GxR.TabG H P) : Nws Ps H H' :=
  ⟨t, fun P hP => let ⟨ps, e, tr⟩ := t P hP; ⟨ps, x P _ e, tr⟩, fun b o _ e => x b o e⟩
/-! ### a frame's parts -/
/-- the keys and their places -/
def placesF : Nat → List Str → List (L2.Key × V)
  | _, [] => []
  | i, k :: ks => (.inr k, .int (i : Int)) :: placesF (i + 1) ks
def places (ks : List Str) : List (L2.Key × V) := placesF 0 ks
theorem placesF_app : ∀ (i : Nat) (ks : List Str) (k : Str), placesF i (ks ++ [k]) = placesF i ks ++ [(.inr k, .int ((i + ks.length : Nat) : Int))]
  | i, [], k => rfl
  | i, j :: ks, k => by
    show _ :: placesF (i + 1) (ks ++ [k]) = _ :: (placesF (i + 1) ks ++ _)
    rw [placesF_app (i + 1) ks k, List.length_cons, show i + 1 + ks.length = i + (ks.length + 1) by omega]
theorem places_len : ∀ (i : Nat) (ks : List Str), (placesF i ks).length = ks.length
  | _, [] => rfl
  | i, k :: ks => by
    show (placesF (i + 1) ks).length + 1 = ks.length + 1
    rw [places_len]
theorem places_keys : ∀ (i : Nat) (ks : List Str), (placesF i ks).map (fun kv => kV kv.1) = ks.map V.str
  | _, [] => rfl
  | i, k :: ks => by
    show V.str k :: (placesF (i + 1) ks).map _ = V.str k :: ks.map V.str
    rw [places_keys]
theorem places_val : ∀ (i : Nat) (ks : List Str) (k : Str), (valV (placesF i ks) (.inr k)).isSome = decide (k ∈ ks)
  | _, [], k => rfl
  | i, j :: ks, k => by
    have ih := places_val (i + 1) ks k
    unfold valV at ih ⊢
    show (((((.inr j, .int (i : Int)) : L2.Key × V) :: placesF (i + 1) ks).find? fun kv => decide (kv.1 = .inr k)).map (·.2)).isSome = _
    by_cases e : j = k
    · subst e
      rw [List.find?_cons_of_pos (by simp)]
      simp
    · rw [List.find?_cons_of_neg (by simpa using e), ih, decide_eq_decide, List.mem_cons]
      exact ⟨.inr, fun h => h.elim (fun z => absurd z.symm e) id⟩
theorem places_at : ∀ (i : Nat) (ks : List Str) (j : Nat) (k : Str), ks.Nodup → ks[j]? = some k → valV (placesF i ks) (.inr k) = some (.int ((i + j : Nat) : Int))
  | _, [], _, _, _, h => nomatch h
  | i, x :: ks, 0, k, _, h => by
    obtain rfl : x = k := Option.some.inj h
    unfold valV
    show (((((.inr x, .int (i : Int)) : L2.Key × V) :: placesF (i + 1) ks).find? fun kv => decide (kv.1 = .inr x)).map (·.2)) = _
    rw [List.find?_cons_of_pos (by simp)]
    rfl
  | i, x :: ks, j + 1, k, nd, h => by
    have nd' := List.nodup_cons.mp nd
    have hk : ks[j]? = some k := h
    have ne : ¬ x = k := fun z => nd'.1 (z ▸ List.mem_of_getElem? hk)
    have ih := places_at (i + 1) ks j k nd'.2 hk
    unfold valV at ih ⊢
    show (((((.inr x, .int (i : Int)) : L2.Key × V) :: placesF (i + 1) ks).find? fun kv => decide (kv.1 = .inr k)).map (·.2)) = _
    rw [List.find?_cons_of_neg (by simpa using ne), ih, show i + 1 + j = i + (j + 1) by omega]
theorem places_put {ks : List Str} {i : Nat} {k : Str} (nd : ks.Nodup) (e : ks[i]? = some k) : putK (places (ks.take i)) (.inr k) (.int (i : Int)) = places (ks.take (i + 1)) := by
  obtain ⟨hi, rfl⟩ := List.getElem?_eq_some_iff.mp e
  have no : ¬ ks[i] ∈ ks.take i := fun m => by
    obtain ⟨j, hj⟩ := List.mem_iff_getElem?.mp m
    rw [List.getElem?_take] at hj
    by_cases l : j < i
    · rw [if_pos l] at hj
      obtain ⟨hj', ej⟩ := List.getElem?_eq_some_iff.mp hj
      exact absurd ej (List.pairwise_iff_getElem.mp nd j i hj' hi l)
    · rw [if_neg l] at hj
      cases hj
  have z := places_val 0 (ks.take i) ks[i]
  rw [decide_eq_false no] at z
  have z2 : ((placesF 0 (ks.take i)).any fun kv => decide (kv.1 = .inr ks[i])) = false := by
    cases q : (placesF 0 (ks.take i)).any fun kv => decide (kv.1 = .inr ks[i]) with
    | false => rfl
    | true =>
      exfalso
      obtain ⟨y, hy, ey⟩ := List.any_eq_true.mp q
      unfold valV at z
      cases f : (placesF 0 (ks.take i)).find? fun kv => decide (kv.1 = .inr ks[i]) with
      | some v => rw [f] at z; cases z
      | none => exact absurd ey (by simpa using List.find?_eq_none.mp f y hy)
  unfold putK places
  rw [if_neg (by rw [z2]; exact Bool.false_ne_true), List.take_add_one, e]
  show _ = placesF 0 (ks.take i ++ [ks[i]])
  rw [placesF_app, List.length_take, Nat.zero_add, Nat.min_eq_left (Nat.le_of_lt hi)]
/-- the attributes, in the order in which they are stored -/
def flds (d : Addr) (days turns : Nat) : List (Str × V) := putF "_places" (.ref d) (putF "turns" (.int (turns : Int)) (putF "days" (.int (days : Int)) []))
theorem n1 : ¬ (("turns" : Str) = "_places") := by decide +kernel
theorem n2 : ¬ (("days" : Str) = "_places") := by decide +kernel
theorem n3 : ¬ (("days" : Str) = "turns") := by decide +kernel
theorem flds_days (d : Addr) (days turns : Nat) : (flds d days turns).lookup ("days" : Str) = some (.int (days : Int)) := by
  unfold flds
  rw [lookup_putF, if_neg n2, lookup_putF, if_neg n3, lookup_putF, if_pos rfl]
theorem flds_turns (d : Addr) (days turns : Nat) : (flds d days turns).lookup ("turns" : Str) = some (.int (turns : Int)) := by
  unfold flds
  rw [lookup_putF, if_neg n1, lookup_putF, if_pos rfl]
theorem flds_places (d : Addr) (days turns : Nat) : (flds d days turns).lookup ("_places" : Str) = some (.ref d) := by
  unfold flds
  rw [lookup_putF, if_pos rfl]
theorem flds_no (d : Addr) (days turns : Nat) {m : Str} (h1 : ¬ m = "_places") (h2 : ¬ m = "turns") (h3 : ¬ m = "days") : (flds d days turns).lookup m = none := by
  unfold flds
  rw [lookup_putF, if_neg h1, lookup_putF, if_neg h2, lookup_putF, if_neg h3]
  rfl
/-- a frame as it is told -/
structure Fr where
  keys : List Str
  days : Nat
  turns : Nat
/-- a Frame stands at p -/
def FrameAt (C : Addr) (H : Hp) (p : Addr) (f : Fr) : Prop := ∃ dx d, H p = some (.ins C dx (flds d f.days f.turns)) ∧ H d = some (.dK (places f.keys))
theorem FrameAt.nws {C p : Addr} {H H' : Hp} {f : Fr} {Ps : List Addr} (h : FrameAt C H p f) (x : Nws Ps H H') : FrameAt C H' p f := by
  obtain ⟨dx, d, e1, e2⟩ := h
  exact ⟨dx, d, x.get e1 (fun q z => by cases z), x.get e2 (fun q z => by cases z)⟩
theorem FrameAt.exd {C p : Addr} {H H' : Hp} {f : Fr} (h : FrameAt C H p f) (x : Exd H H') : FrameAt C H' p f := by
  obtain ⟨dx, d, e1, e2⟩ := h
  exact ⟨dx, d, x _ _ e1, x _ _ e2⟩
/-- a key: such a thing -/
def isKeyV (ks : List Str) : V → Bool
  | .str z => decide (z ∈ ks)
  | _ => false
end LL
namespace LL
open PySem PySem.Spec PyProof.Rows L2
/-! ### texts as data -/
def pds (ws : List Str) : List PyData := ws.map PyData.str
theorem dp_strs {K : PySem.W.Frag} {H : Hp} : ∀ ws : List Str, DpAll K H (ws.map V.str) (pds ws)
  | [] => .nil
  | x :: r => .cons (.str x) (dp_strs r)
theorem can_strs : ∀ ws : List Str, (∀ x ∈ ws, PyData.strOk x = true) → PyData.canLayAll0 (pds ws) = true
  | [], _ => rfl
  | x :: r, h => by
    show (PyData.canLay0 (.str x) && PyData.canLayAll0 (pds r)) = true
    rw [can_strs r fun y hy => h y (List.mem_cons_of_mem _ hy), Bool.and_true]
    exact h x List.mem_cons_self
theorem dep_strs : ∀ ws : List Str, PyData.depthAll (pds ws) ≤ 1
  | [] => by decide
  | x :: r => by
    show max (PyData.depth (.str x)) (PyData.depthAll (pds r)) ≤ 1
    have := dep_strs r
    have e : PyData.depth (.str x) ≤ 1 := by simp [PyData.depth]
    omega
theorem shaped_strs (ws : List Str) (h : ∀ x ∈ ws, PyData.strOk x = true) : SeqAt.shaped (.list (pds ws)) = true := by
  unfold SeqAt.shaped
  rw [Bool.and_eq_true]
  refine ⟨can_strs ws h, decide_eq_true ?_⟩
  show PyData.depthAll (pds ws) + 1 ≤ 64
  have := dep_strs ws
  omega
theorem eqv_strs : ∀ ws us : List Str, PyData.eqvAll (pds ws) (pds us) = decide (ws = us)
  | [], [] => rfl
  | [], _ :: _ => rfl
  | _ :: _, [] => rfl
  | x :: r, y :: t => by
    show (PyData.eqv (.str x) (.str y) && PyData.eqvAll (pds r) (pds t)) = _
    rw [eqv_strs r t, Bool.eq_iff_iff, Bool.and_eq_true, decide_eq_true_eq, decide_eq_true_eq]
    constructor
    · rintro ⟨a, b⟩
      have a' : (x == y) = true := a
      rw [beq_iff_eq.mp a', b]
    · intro e
      injection e with e1 e2
      exact ⟨show (x == y) = true from beq_iff_eq.mpr e1, e2⟩
/-- a list or a tuple of texts -/
def StrSq (H : Hp) (a : Addr) (ks : List Str) : Prop := H a = some (.lst (ks.map V.str)) ∨ H a = some (.tup (ks.map V.str))
theorem StrSq.nws {H H' : Hp} {a : Addr} {ks : List Str} {Ps : List Addr} (h : StrSq H a ks) (x : Nws Ps H H') : StrSq H' a ks := h.elim (fun e => .inl (x.lst e)) fun e => .inr (x.tup e)
theorem StrSq.exd {H H' : Hp} {a : Addr} {ks : List Str} (h : StrSq H a ks) (x : Exd H H') : StrSq H' a ks := h.elim (fun e => .inl (x _ _ e)) fun e => .inr (x _ _ e)
theorem StrSq.sq {K : PySem.W.Frag} {H : Hp} {a : Addr} {ks : List Str} (h : StrSq H a ks) : SqL K H a (ks.map V.str) ∨ SqT K H a (ks.map V.str) := h.elim (fun e => .inl (SqL.of e)) fun e => .inr (SqT.of e)
/-- {e: f for i, x in enumerate(xs)}, xs a list -/
theorem dc_enumL {K : PySem.W.Frag} {a : Addr} {xs : List V} {g : TG} {tt : TT} {tk tv : TE} {vs : List Nat} {σ : L2.St} {H1 : Hp} {D : Addr} {Qd : Hp → Prop} (J : Nat → Hp → Prop) (first : J 0 (upd H1 D (.dK []))) (still : ∀ i H, i ≤ xs.length → J i H → SqL K H a xs)
    (turn : ∀ i x H T, xs[i]? = some x → J i H → H T = none → g (.ref T) (wipe σ vs) (upd H T (.tup [.int (i : Nat), x])) fun σ2 H2 => wipe σ2 vs = wipe σ vs ∧ tt σ2 H2 fun b H3 =>
      if b = true then tk σ2 H3 fun y H4 => tv σ2 H4 fun z H5 => ∃ kvs k, y = kV k ∧ H5 D = some (.dK kvs) ∧ kvs.length < sizeLine ∧ J (i + 1) (upd H5 D (.dK (putK kvs k z))) else J (i + 1) H3) (last : ∀ H, J xs.length H → Qd H) :
    ∃ W : Nat → Nat → Hp → Prop, (∃ m, W 0 m (upd H1 D (.dK []))) ∧ ∀ i m H, W i m H →
      ((Ite K a).stop i H ∧ Qd H) ∨ ((Ite K a).go i H ∧ ∃ Nx : Hp → Prop, (∀ H', Nx H' → ∃ m', m' < m ∧ W (i + 1) m' H') ∧ ∀ x H', (Ite K a).yld i H x H' → g x (wipe σ vs) H' fun σ2 H2 => wipe σ2 vs = wipe σ vs ∧ tt σ2 H2 fun b H3 =>
        if b = true then tk σ2 H3 fun y H4 => tv σ2 H4 fun z H5 => ∃ kvs k, y = kV k ∧ H5 D = some (.dK kvs) ∧ kvs.length < sizeLine ∧ Nx (upd H5 D (.dK (putK kvs k z))) else Nx H3) := by
  refine ⟨fun i m H => m = xs.length - i ∧ i ≤ xs.length ∧ J i H, ⟨xs.length, by simp, Nat.zero_le _, first⟩, ?_⟩
  rintro i m H ⟨rfl, le, j⟩
  have sq := still i H le j
  rcases Nat.lt_or_ge i xs.length with lt | ge
  · refine .inr ⟨⟨xs, xs[i], sq, by simp [lt]⟩, J (i + 1), fun H' j' => ⟨xs.length - (i + 1), by omega, rfl, lt, j'⟩, fun y H' yl => ?_⟩
    obtain ⟨T, x, rfl, hT, rfl, e⟩ := yl
    exact turn i x H T (e xs sq) j hT
  · obtain rfl : i = xs.length := by omega
    exact .inl ⟨⟨xs, sq, Nat.le_refl _⟩, last H j⟩
/-- xs a tuple -/
theorem dc_enumT {K : PySem.W.Frag} {a : Addr} {xs : List V} {g : TG} {tt : TT} {tk tv : TE} {vs : List Nat} {σ : L2.St} {H1 : Hp} {D : Addr} {Qd : Hp → Prop} (J : Nat → Hp → Prop) (first : J 0 (upd H1 D (.dK []))) (still : ∀ i H, i ≤ xs.length → J i H → SqT K H a xs)
    (turn : ∀ i x H T, xs[i]? = some x → J i H → H T = none → g (.ref T) (wipe σ vs) (upd H T (.tup [.int (i : Nat), x])) fun σ2 H2 => wipe σ2 vs = wipe σ vs ∧ tt σ2 H2 fun b H3 =>
      if b = true then tk σ2 H3 fun y H4 => tv σ2 H4 fun z H5 => ∃ kvs k, y = kV k ∧ H5 D = some (.dK kvs) ∧ kvs.length < sizeLine ∧ J (i + 1) (upd H5 D (.dK (putK kvs k z))) else J (i + 1) H3) (last : ∀ H, J xs.length H → Qd H) :
    ∃ W : Nat → Nat → Hp → Prop, (∃ m, W 0 m (upd H1 D (.dK []))) ∧ ∀ i m H, W i m H →
      ((IteT K a).stop i H ∧ Qd H) ∨ ((IteT K a).go i H ∧ ∃ Nx : Hp → Prop, (∀ H', Nx H' → ∃ m', m' < m ∧ W (i + 1) m' H') ∧ ∀ x H', (IteT K a).yld i H x H' → g x (wipe σ vs) H' fun σ2 H2 => wipe σ2 vs = wipe σ vs ∧ tt σ2 H2 fun b H3 =>
        if b = true then tk σ2 H3 fun y H4 => tv σ2 H4 fun z H5 => ∃ kvs k, y = kV k ∧ H5 D = some (.dK kvs) ∧ kvs.length < sizeLine ∧ Nx (upd H5 D (.dK (putK kvs k z))) else Nx H3) := by
  refine ⟨fun i m H => m = xs.length - i ∧ i ≤ xs.length ∧ J i H, ⟨xs.length, by simp, Nat.zero_le _, first⟩, ?_⟩
  rintro i m H ⟨rfl, le, j⟩
  have sq := still i H le j
  rcases Nat.lt_or_ge i xs.length with lt | ge
  · refine .inr ⟨⟨xs, xs[i], sq, by simp [lt]⟩, J (i + 1), fun H' j' => ⟨xs.length - (i + 1), by omega, rfl, lt, j'⟩, fun y H' yl => ?_⟩
    obtain ⟨T, x, rfl, hT, rfl, e⟩ := yl
    exact turn i x H T (e xs sq) j hT
  · obtain rfl : i = xs.length := by omega
    exact .inl ⟨⟨xs, sq, rfl⟩, last H j⟩
/-- a frame as it is told, as data -/
def frDat (f : Fr) : PyData := .tuple [.tuple (pds f.keys), .int (f.days : Int), .int (f.turns : Int)]
theorem frDat_eqv (f g : Fr) : PyData.eqv (frDat f) (frDat g) = decide ((f.keys, f.days, f.turns) = (g.keys, g.days, g.turns)) := by
  have e : PyData.eqv (frDat f) (frDat g) = (PyData.eqvAll (pds f.keys) (pds g.keys) && (((f.days : Int) == (g.days : Int)) && (((f.turns : Int) == (g.turns : Int)) && true))) := by simp only [frDat, PyData.eqv, PyData.eqvAll]
  rw [e, eqv_strs, Bool.eq_iff_iff]
  simp only [Bool.and_eq_true, decide_eq_true_eq, beq_iff_eq, Prod.mk.injEq, and_true]
  constructor
  · rintro ⟨a, b, c⟩
    exact ⟨a, by omega, by omega⟩
  · rintro ⟨a, b, c⟩
    exact ⟨a, by omega, by omega⟩
theorem frDat_shaped {f : Fr} (h : ∀ x ∈ f.keys, PyData.strOk x = true) : SeqAt.shaped (frDat f) = true := by
  have h1 := can_strs f.keys h
  have h2 := dep_strs f.keys
  have h3 : PyData.depth (frDat f) ≤ 64 := by
    simp only [frDat, PyData.depth, PyData.depthAll]
    omega
  show (PyData.canLay0 (frDat f) && decide (PyData.depth (frDat f) ≤ 64)) = true
  rw [Bool.and_eq_true]
  exact ⟨by simp only [frDat, PyData.canLay0, PyData.canLayAll0, Bool.and_true]; exact h1, decide_eq_true h3⟩
/-- the told tuple at q -/
def ToldAt (H : Hp) (q : Addr) (f : Fr) : Prop := ∃ u, H q = some (.tup [.ref u, .int (f.days : Int), .int (f.turns : Int)]) ∧ H u = some (.tup (f.keys.map V.str))
theorem ToldAt.dp {K : PySem.W.Frag} {H : Hp} {q : Addr} {f : Fr} (h : ToldAt H q f) : Dp K H (.ref q) (frDat f) := by
  obtain ⟨u, e1, e2⟩ := h
  exact .tup (SqT.of e1) (.cons (.tup (SqT.of e2) (dp_strs _)) (.cons (.int _) (.cons (.int _) .nil)))
theorem ToldAt.exd {H H' : Hp} {q : Addr} {f : Fr} (h : ToldAt H q f) (x : Exd H H') : ToldAt H' q f := by
  obtain ⟨u, e1, e2⟩ := h
  exact ⟨u, x _ _ e1, x _ _ e2⟩
theorem ToldAt.nws {H H' : Hp} {q : Addr} {f : Fr} {Ps : List Addr} (h : ToldAt H q f) (x : Nws Ps H H') : ToldAt H' q f := by
  obtain ⟨u, e1, e2⟩ := h
  exact ⟨u, x.tup e1, x.tup e2⟩
end LL
namespace LL
open PySem PySem.Spec PyProof.Rows L2
/-! ### texts by their signs -/
def ofC (cs : List Nat) : Str := ⟨cs.toArray⟩
theorem ofC_inj {a b : List Nat} (h : ofC a = ofC b) : a = b := by
  have : a.toArray = b.toArray := congrArg Str.cps h
  simpa using congrArg Array.toList this
theorem ofC_cps (a : List Nat) : (ofC a).cps.toList = a := by simp [ofC]
theorem ofC_len (a : List Nat) : (ofC a).length = a.length := by
  show a.toArray.size = a.length
  simp
theorem ofC_app (a b : List Nat) : ofC a ++ ofC b = ofC (a ++ b) := by
  show (⟨a.toArray ++ b.toArray⟩ : Str) = ⟨(a ++ b).toArray⟩
  simp
theorem ofC_cut (a : List Nat) (k : Nat) : cutS (ofC a) none (some (k : Int)) = ofC (a.take k) := by
  unfold cutS
  rw [ofC_cps, ofC_len]
  have s1 : HT.sIx a.length 0 none = 0 := rfl
  rw [s1, HT.sIx_nat, List.drop_zero, Nat.sub_zero]
  show ofC _ = ofC _
  congr 1
  rcases Nat.le_total k a.length with h | h
  · rw [Nat.min_eq_left h]
  · rw [Nat.min_eq_right h, List.take_of_length_le (Nat.le_refl _), List.take_of_length_le h]
theorem ofC_joinS : ∀ cs : List Nat, Str.join "" (cs.map fun c => ofC [c]) = ofC cs
  | [] => rfl
  | [c] => rfl
  | c :: d :: cs => by
    have ih := ofC_joinS (d :: cs)
    show ofC [c] ++ "" ++ Str.join "" ((d :: cs).map fun c => ofC [c]) = _
    rw [ih]
    have : ofC [c] ++ ("" : Str) = ofC [c] := by rfl
    rw [this, ofC_app]
    rfl
theorem ofC_join (cs : List Nat) : Txt.join "" (cs.map fun c => ofC [c]) = ofC cs := (TL.join_eq _ _).trans (ofC_joinS cs)
/-! ### the law's names: a letter, then nothing, or a z or q and more -/
def low (c : Nat) : Prop := 97 ≤ c ∧ c < 123
theorem low_in {c : Nat} (h : low c) : c ∈ ("abcdefghijklmnopqrstuvwxyz" : Str).cps.toList := by
  have all : ∀ c, c < 123 → 97 ≤ c → c ∈ ("abcdefghijklmnopqrstuvwxyz" : Str).cps.toList := by decide +kernel
  exact all c h.2 h.1
theorem let_at {i : Nat} (h : i < 26) : atI ("abcdefghijklmnopqrstuvwxyz" : Str).cps.toList (i : Int) = some (97 + i) := by
  refine atI_nat ?_
  have all : ∀ i, i < 26 → ("abcdefghijklmnopqrstuvwxyz" : Str).cps.toList[i]? = some (97 + i) := by decide +kernel
  exact all i h
/-- such a name's signs -/
structure Nm (cs : List Nat) : Prop where
  low : ∀ c ∈ cs, low c
  one : 1 ≤ cs.length
  eight : cs.length ≤ 8
  two : ∀ c, cs[1]? = some c → c = 122 ∨ c = 113
/-- the i-th letter's place -/
def lx (s k : Nat) : Nat := 97 + (s + k) % 26
theorem lx_low (s k : Nat) : low (lx s k) := by
  unfold low lx
  omega
/-- the first kind -/
def nmA (s : Nat) (T : List Nat) (k : Nat) : List Nat := lx s (k / 6) :: 122 :: T.take (k % 6)
theorem nmA_ok {s k : Nat} {T : List Nat} (h : ∀ c ∈ T, low c) : Nm (nmA s T k) where
  low := fun c hc => by
    rcases List.mem_cons.mp hc with rfl | hc
    · exact lx_low _ _
    · rcases List.mem_cons.mp hc with rfl | hc
      · exact ⟨by decide, by decide⟩
      · exact h c (List.mem_of_mem_take hc)
  one := by simp [nmA]
  eight := by
    show (T.take (k % 6)).length + 1 + 1 ≤ 8
    rw [List.length_take]
    omega
  two := fun c hc => .inl (by
    have : some 122 = some c := hc
    exact (Option.some.inj this).symm)
theorem nmA_len {s k : Nat} {T : List Nat} (hT : T.length = 7) : (nmA s T k).length = 2 + k % 6 := by
  show (T.take (k % 6)).length + 1 + 1 = _
  rw [List.length_take]
  omega
theorem nmA_apart {s j k : Nat} {T : List Nat} (hT : T.length = 7) (h : j < k) (hk : k < 12) : nmA s T j ≠ nmA s T k := fun e => by
  have l := congrArg List.length e
  rw [nmA_len hT, nmA_len hT] at l
  have f : lx s (j / 6) = lx s (k / 6) := by
    injection e
  unfold lx at f
  omega
/-- the second kind -/
def nmB (s k : Nat) (U : List Nat) : List Nat := lx s (7 * k) :: U
theorem nmB_ok {s k : Nat} {U : List Nat} (h : ∀ c ∈ U, low c) (l : U.length ≤ 7) (z : ∀ c, U[0]? = some c → c = 122 ∨ c = 113) : Nm (nmB s k U) where
  low := fun c hc => by
    rcases List.mem_cons.mp hc with rfl | hc
    · exact lx_low _ _
    · exact h c hc
  one := by simp [nmB]
  eight := by
    show U.length + 1 ≤ 8
    omega
  two := fun c hc => z c hc
theorem nmB_apart {s j k : Nat} {U W : List Nat} (h : j < k) (hk : k < 12) : nmB s j U ≠ nmB s k W := fun e => by
  have f : lx s (7 * j) = lx s (7 * k) := by
    injection e
  unfold lx at f
  omega
/-- an object that is new since H is changed -/
theorem Kept.put {a p : Addr} {H H1 : Hp} {u : HO} (x : Kept a H H1) (hp : H p = none) (n : p ≠ a) : Kept a H (L2.upd H1 p u) := by
  obtain ⟨⟨o, e, b⟩, old⟩ := x
  exact ⟨⟨o, by rw [upd_ne n.symm]; exact e, b⟩, fun c v m q => by rw [upd_ne (ne_of_none q hp)]; exact old c v m q⟩
end LL
namespace LL
open PySem PySem.Spec PyProof.Rows L2
/-! ### a box and tables change, the rest is kept -/
structure Kbs (a : Addr) (Ps : List Addr) (H H' : Hp) : Prop where
  box : ∃ o, H' a = some o ∧ BoxO o
  tab : ∀ P ∈ Ps, GxR.TabG H' P
  old : ∀ b o, b ≠ a → b ∉ Ps → H b = some o → H' b = some o
theorem box_tabs {a : Addr} {Ps : List Addr} {H : Hp} (b : ∃ o, H a = some o ∧ BoxO o) (t : ∀ P ∈ Ps, GxR.TabG H P) : a ∉ Ps := fun m => box_tab b (t a m) rfl
theorem Kbs.refl {a : Addr} {Ps : List Addr} {H : Hp} (b : ∃ o, H a = some o ∧ BoxO o) (t : ∀ P ∈ Ps, GxR.TabG H P) : Kbs a Ps H H := ⟨b, t, fun _ _ _ _ e => e⟩
theorem Kbs.kept {a : Addr} {Ps : List Addr} {H H1 H2 : Hp} (x : Kbs a Ps H H1) (y : Kept a H1 H2) : Kbs a Ps H H2 := ⟨y.box, fun P hP => y.tab x.box (x.tab P hP), fun b o n m e => y.old b o n (x.old b o n m e)⟩
theorem Kbs.nws {a : Addr} {Ps : List Addr} {H H1 H2 : Hp} (x : Kbs a Ps H H1) (y : Nws Ps H1 H2) : Kbs a Ps H H2 := by
  have n := box_tabs x.box x.tab
  obtain ⟨o, e, b⟩ := x.box
  exact ⟨⟨o, y.old a o n e, b⟩, y.tab, fun c u m k q => y.old c u k (x.old c u m k q)⟩
theorem Kbs.exd {a : Addr} {Ps : List Addr} {H H1 H2 : Hp} (x : Kbs a Ps H H1) (y : Exd H1 H2) : Kbs a Ps H H2 := x.kept (y.kept x.box)
theorem Kbs.trans {a : Addr} {Ps : List Addr} {H H1 H2 : Hp} (x : Kbs a Ps H H1) (y : Kbs a Ps H1 H2) : Kbs a Ps H H2 := ⟨y.box, y.tab, fun b o n m e => y.old b o n m (x.old b o n m e)⟩
theorem Kbs.new {a p : Addr} {Ps : List Addr} {H H1 : Hp} {u : HO} (x : Kbs a Ps H H1) (hp : H1 p = none) : Kbs a Ps H (L2.upd H1 p u) := x.exd ((Exd.refl _).new hp)
theorem Kbs.toNws {a : Addr} {Ps : List Addr} {H0 H H' : Hp} (x : Kbs a Ps H H') (n : Nws Ps H0 H) (h : H0 a = none) : Nws Ps H0 H' :=
  ⟨n.was, x.tab, fun c o m e => x.old c o (fun z => by rw [z, h] at e; cases e) m (n.old c o m e)⟩
theorem Kbs.get {a b : Addr} {Ps : List Addr} {H H' : Hp} {o : HO} (x : Kbs a Ps H H') (t : ∀ P ∈ Ps, GxR.TabG H P) (n : b ≠ a) (e : H b = some o) (no : ∀ q, o ≠ .tbl q) : H' b = some o := x.old b o n (tabs_ne t e no) e
theorem Kbs.lst {a b : Addr} {Ps : List Addr} {H H' : Hp} {xs : List V} (x : Kbs a Ps H H') (t : ∀ P ∈ Ps, GxR.TabG H P) (n : b ≠ a) (e : H b = some (.lst xs)) : H' b = some (.lst xs) := x.get t n e (fun q z => by cases z)
theorem FrameAt.kbs {C p a : Addr} {H H' : Hp} {f : Fr} {Ps : List Addr} (h : FrameAt C H p f) (b : ∃ o, H a = some o ∧ BoxO o) (t : ∀ P ∈ Ps, GxR.TabG H P) (x : Kbs a Ps H H') : FrameAt C H' p f := by
  obtain ⟨dx, d, e1, e2⟩ := h
  obtain ⟨o, eb, x0, y0, z0, rfl, _⟩ := b
  exact ⟨dx, d, x.get t (fun z => by rw [z, eb] at e1; cases e1) e1 (fun q z => by cases z), x.get t (fun z => by rw [z, eb] at e2; cases e2) e2 (fun q z => by cases z)⟩
theorem Kbs.free {a b : Addr} {Ps : List Addr} {H H' : Hp} (x : Kbs a Ps H H') (e : H' b = none) : H b = none := by
  cases q : H b with
  | none => rfl
  | some o =>
    by_cases z : b = a
    · obtain ⟨o', e', _⟩ := x.box
      rw [z, e'] at e
      cases e
    · by_cases z2 : b ∈ Ps
      · obtain ⟨ps, e2, _⟩ := x.tab b z2
        rw [e2] at e
        cases e
      · rw [x.old b o z z2 q] at e
        cases e
/-! ### what repr asks of names -/
theorem sm_str {z : Str} (h : PyData.strOk z = true) : Sm (.str z) 0 z.cps.size :=
  ⟨by simp only [PyData.canLay0]; exact h, by simp only [PyData.showable], by simp only [PyData.intsShort], by simp only [PyData.depth]; exact Nat.le_refl _, by simp only [PyData.weight]; exact Nat.le_refl _⟩
theorem sm_frame {f : Fr} (h : ∀ z ∈ f.keys, PyData.strOk z = true ∧ z.cps.size ≤ 8) (l : f.keys.length ≤ 12) (d : f.days ≤ 400) (u : f.turns ≤ 400) : Sm (frDat f) 60 1048576 := by
  have a := (smAll_of (ds := pds f.keys) (k := 0) (W := 8) fun x hx => by
    obtain ⟨z, hz, rfl⟩ := List.mem_map.mp hx
    exact (sm_str (h z hz).1).mono (Nat.le_refl _) (h z hz).2).tuple
  have ln : (pds f.keys).length = f.keys.length := List.length_map _
  have b := (SmAll.cons a (SmAll.cons (sm_nat (n := f.days) (by omega)) (SmAll.cons (sm_nat (n := f.turns) (by omega)) smAll_nil))).tuple
  refine b.mono (by decide) ?_
  rw [ln]
  omega
end LL
namespace LL
open PySem PySem.Spec PyProof.Rows L2
/-! ### tools for draws -/
theorem obj_of {H H1 : Hp} {q : Addr} {u : HO} (hq : H q = none) (e : upd H q u = H1) : Exd H H1 ∧ H1 q = some u := by
  rw [← e]
  exact ⟨(Exd.refl _).new hq, upd_same⟩
theorem at_mem {xs : List V} {r : Int} (h0 : 0 ≤ r) (h1 : r < (xs.length : Int)) : ∃ v, atI xs r = some v ∧ v ∈ xs := by
  obtain ⟨k, rfl⟩ : ∃ k : Nat, r = (k : Int) := ⟨r.toNat, (Int.toNat_of_nonneg h0).symm⟩
  have hk : k < xs.length := by omega
  exact ⟨xs[k], atI_nat (List.getElem?_eq_getElem hk), List.getElem_mem hk⟩
/-- a box stands at a -/
def Bx (H : Hp) (a : Addr) : Prop := ∃ o, H a = some o ∧ BoxO o
def noBox : HO → Bool
  | .lst [.int _, .int _, .int _] => false
  | _ => true
theorem Kept.get {a q : Addr} {H H' : Hp} {u : HO} (x : Kept a H H') (b : Bx H a) (e : H q = some u) (n : noBox u = true) : H' q = some u := by
  refine x.old q u (fun z => ?_) e
  obtain ⟨o, ea, x0, y0, z0, rfl, _⟩ := b
  rw [z, ea] at e
  cases e
  cases n
theorem Kept.getN {a q : Addr} {H H0 H' : Hp} {u : HO} (x : Kept a H H') (e : H q = some u) (b : Bx H0 a) (hq : H0 q = none) : H' q = some u := by
  refine x.old q u (fun z => ?_) e
  obtain ⟨o, ea, _⟩ := b
  rw [z, ea] at hq
  cases hq
theorem Bx.exd {a : Addr} {H H' : Hp} (b : Bx H a) (x : Exd H H') : Bx H' a := by
  obtain ⟨o, e, bo⟩ := b
  exact ⟨o, x _ _ e, bo⟩
theorem Kept.bx {a : Addr} {H H' : Hp} (x : Kept a H H') : Bx H' a := x.box
theorem noBox_strs {ks : List Str} : noBox (.lst (ks.map V.str)) = true := by
  match ks with
  | [] => rfl
  | [_] => rfl
  | [_, _] => rfl
  | [_, _, _] => rfl
  | _ :: _ :: _ :: _ :: _ => rfl
theorem sz {n : Nat} (hn : n ≤ 1000) : n ≤ sizeLine := by
  have := PySem.sizeLine_eq
  omega
theorem int_of {r : Int} (h : 0 ≤ r) : ∃ n : Nat, r = (n : Int) := ⟨r.toNat, (Int.toNat_of_nonneg h).symm⟩
theorem low_strOk {cs : List Nat} (h : ∀ c ∈ cs, low c) : PyData.strOk (ofC cs) = true := by
  unfold PyData.strOk
  rw [Array.all_eq_true']
  intro c hc
  have hc : c ∈ cs := by simpa [ofC] using hc
  have := (h c hc).2
  exact decide_eq_true (by omega)
end LL
namespace LL
open PySem PySem.Spec PyProof.Rows L2
/-! ### try with several except clauses, named or not, one of which takes what is raised -/
abbrev SuT := Addr → Value → Option Addr → TS
inductive HdsA (X : Cx) : List ExceptHandler → List (Value × Option Nat × SuT) → Prop
  | nil : HdsA X [] []
  | plain {x : Str} {c : Value} {ts : SuT} {b₀ : Stmt} {suite : List Stmt} {np pos' : Pos} {hds : List ExceptHandler} {l : List (Value × Option Nat × SuT)} (hc : Names X x c)
      (hsu : ∀ (a : Addr) (oe : Obj) (cls : Value) (d : Option Addr) (pn : List (Addr × Obj)), Zc cls d oe → (∃ vs, oe.data = .fields vs) → PSs (X.suite a ((a, oe) :: pn)) (b₀ :: suite) (ts a cls d))
      (r : HdsA X hds l) : HdsA X (.ExceptHandler (some (.Name x np)) none (b₀ :: suite) pos' :: hds) ((c, none, ts) :: l)
  | named {x n : Str} {i : Nat} {c : Value} {ts : SuT} {b₀ : Stmt} {suite : List Stmt} {np pos' : Pos} {hds : List ExceptHandler} {l : List (Value × Option Nat × SuT)} (hi : X.N[i]? = some n) (hln : X.env.kindOf n = some .local) (hc : Names X x c)
      (hsu : ∀ (a : Addr) (oe : Obj) (cls : Value) (d : Option Addr) (pn : List (Addr × Obj)), Zc cls d oe → (∃ vs, oe.data = .fields vs) → PSs (X.suite a ((a, oe) :: pn)) (b₀ :: suite) (ts a cls d))
      (r : HdsA X hds l) : HdsA X (.ExceptHandler (some (.Name x np)) (some n) (b₀ :: suite) pos' :: hds) ((c, some i, ts) :: l)
/-- the ends of a suite behind which the name is gone -/
def endsGone (D : Ends) (i : Nat) : Ends := { nx := fun σ' H' => D.nx (σ'.set i none) H', rt := D.rt, bk := fun σ' H' => D.bk (σ'.set i none) H', ct := fun σ' H' => D.ct (σ'.set i none) H' }
def wManyA (K : PySem.W.Frag) (D : Ends) : List (Value × Option Nat × SuT) → WX
  | [] => fun _ _ _ _ => False
  | (c, none, ts) :: r => fun cls d σ H => ∃ b, PySem.W.exmOne K cls c = some b ∧ (b = true → ∀ a, H a = none → ts a cls d D σ H) ∧ (b = false → wManyA K D r cls d σ H)
  | (c, some i, ts) :: r => fun cls d σ H => ∃ b, PySem.W.exmOne K cls c = some b ∧ (b = true → ∀ a, H a = none → ts a cls d (endsGone D i) (σ.set i (some (.ref a))) H) ∧ (b = false → wManyA K D r cls d σ H)
theorem ps_try_manyA {X : Cx} {body : List Stmt} {h₀ : ExceptHandler} {hds : List ExceptHandler} {l : List (Value × Option Nat × SuT)} {pos : Pos} {tb : WX → TS}
    (hs : X.stack = X.env :: X.outer) (hf : X.env.frame = some X.env.locals) (hN : X.N.Nodup)
    (hb : ∀ (W : WX) (pn : List (Addr × Obj)) (xe : Value → Shared → Prop), Takes (X.tr pn xe) W → PassesOwn (model X.prog X.w) X.A X.env xe → PSs (X.tr pn xe) body (tb W))
    (hh : HdsA X (h₀ :: hds) l) : PS X (.Try body (h₀ :: hds) [] [] pos) fun D σ H => tb (wManyA X.K D l) D σ H := by
  refine ⟨fun pins s σ H D I h => ?_⟩
  have ok := I.ok
  have hfr : X.A.frames = some (X.env :: X.outer) := by rw [ok.frames, hs]
  refine wpAny_Try_except (wpAny_mono ((hb (wManyA X.K D l) (X.pn ++ pins) (fun e s₁ => wpAny (model X.prog X.w) X.A (noteFrame e X.env) (fun _ s₂ => wpAny (model X.prog X.w) X.A (setFlight e none)
    (fun _ s₃ => wpAny (model X.prog X.w) X.A (handleBy e X.env (h₀ :: hds)) (SP X pins D) X.xe s₃) X.xe s₂) X.xe s₁) ?_ PassesOwn.looking).run _ s σ H D (I.toTry _) h) (fun f s1 q => ?_) (fun _ _ e => e))
  · rintro u s' ⟨a, B, sI, pins', σ', H', cls, d, rfl, J', nb, up, sky, na, os, ag, w⟩
    have J := J'.ofTry ok
    have sky' : Sky B (X.env :: X.outer) a (Zc cls d) X.env.locals s'.heap := by
      rw [← hs]
      exact sky
    refine Sky.land Zc.steady hfr hf sky' fun h3 fl3 up3 => ?_
    have J3 := J.landed (s' := { heap := h3, gens := s'.gens, drawn := s'.drawn, toks := s'.toks, os := s'.os }) nb fl3.1 (up.trans up3) os ag
    have landed : ∀ {h : Heap}, HandSPX.FlyingZ B (X.env :: X.outer) a (Zc cls d) h → ∃ oe vs, h.get? a = some oe ∧ Zc cls d oe ∧ oe.data = .fields vs ∧ a ≠ X.env.locals ∧ a ∉ X.fs := by
      intro h fl
      obtain ⟨oe, vs, he, hz, hd⟩ := fl.there
      have nfr : a ∉ (X.env :: X.outer).filterMap (fun x => x.frame) := fun hm => by
        obtain ⟨_, o', e', hnf⟩ := fl.2.2.1.mem hm
        rw [he] at e'
        cases e'
        exact hnf vs hd
      refine ⟨oe, vs, he, hz, hd, fun z => nfr (List.mem_filterMap.mpr ⟨X.env, List.mem_cons_self, by rw [hf, z]⟩), fun hm => ?_⟩
      obtain ⟨e, he', q⟩ := List.mem_filterMap.mp hm
      exact nfr (List.mem_filterMap.mpr ⟨e, List.mem_cons_of_mem _ he', q⟩)
    obtain ⟨oe3, vs3, he3, hz3, hd3, nL, nF⟩ := landed fl3
    have S3 := J3.suite he3 hd3 na nL nF
    have back : ∀ {f : Flow} {s2 : Shared} {oe : Obj} {D2 : Ends}, SP (X.suite a ((a, oe) :: (X.pn ++ pins))) [] D2 f s2 → SP X pins D2 f s2 := by
      intro f s2 oe D2 q
      cases f with
      | next => obtain ⟨σ2, H2, I2, q⟩ := q; exact ⟨σ2, H2, I2.unsuite ok, q⟩
      | brk => obtain ⟨σ2, H2, I2, q⟩ := q; exact ⟨σ2, H2, I2.unsuite ok, q⟩
      | cont => obtain ⟨σ2, H2, I2, q⟩ := q; exact ⟨σ2, H2, I2.unsuite ok, q⟩
      | ret u => obtain ⟨v, σ2, H2, I2, r, q⟩ := q; exact ⟨v, σ2, H2, I2.unsuite ok, r, q⟩
    have LT : PySem.W.Looks (model X.prog X.w) h3 (typeOf (.ref a)) cls := fun A Q E s k q => wpAny_typeOf_ref (k a oe3 he3) (by rw [hz3.1]; exact q)
    -- a name of a class, looked up
    have look : ∀ {x : Str} {c : Value} {np : Pos} {Q : Value → Shared → Prop} {E : Value → Shared → Prop}, Names X x c → Q c { heap := h3, gens := s'.gens, drawn := s'.drawn, toks := s'.toks, os := s'.os } →
        wpAny (model X.prog X.w) (X.A.mark (some (.ref a))) (eval (.Name x np) X.env) Q E { heap := h3, gens := s'.gens, drawn := s'.drawn, toks := s'.toks, os := s'.os } := by
      rintro x c np Q E ⟨hg, hdbg, hm | ⟨hm, hv, hnn⟩⟩ q
      · exact ld_glob S3 hg hm q hdbg
      · exact ld_blt S3 hg hm hv q hnn hdbg
    have go : ∀ {hs2 : List ExceptHandler} {l2 : List (Value × Option Nat × SuT)}, HdsA X hs2 l2 → wManyA X.K D l2 cls d σ' H' →
        wpAny (model X.prog X.w) X.A (handleBy (.ref a) X.env hs2) (SP X pins D) X.xe { heap := h3, gens := s'.gens, drawn := s'.drawn, toks := s'.toks, os := s'.os } := by
      intro hs2 l2 hk
      induction hk with
      | nil => exact fun w => w.elim
      | @plain x c ts b₀ suite np pos' hds l hc hsu r ih =>
        rintro ⟨b, hb1, hyes, hno⟩
        refine wpAny_handleBy_cons (codeAny_handlers_test (look hc (PySem.W.Looks.here (PySem.W.exm_one J3.kIn LT hb1) ?_))) (by intro z; cases z)
        cases b with
        | false => exact ih (hno rfl)
        | true =>
          refine codeAny_handlers_suite ?_
          refine HandSPX.lands_againZ fl3 fun h4 fl4 up4 => ?_
          obtain ⟨oe4, vs4, he4, hz4, hd4, nL4, nF4⟩ := landed fl4
          have J4 := J.landed (s' := { heap := h4, gens := s'.gens, drawn := s'.drawn, toks := s'.toks, os := s'.os }) nb fl4.1 ((up.trans up3).trans up4) os ag
          have S4 := J4.suite he4 hd4 na nL4 nF4
          refine wpAny_mono ((hsu a oe4 cls d (X.pn ++ pins) hz4 ⟨vs4, hd4⟩).run [] _ σ' H' D S4 (hyes rfl a na)) (fun f s2 q => ?_) (fun _ _ z => z.elim)
          exact back q
      | @named x n i c ts b₀ suite np pos' hds l hi hln hc hsu r ih =>
        rintro ⟨b, hb1, hyes, hno⟩
        refine wpAny_handleBy_cons (codeAny_handlers_test (look hc (PySem.W.Looks.here (PySem.W.exm_one J3.kIn LT hb1) ?_))) (by intro z; cases z)
        cases b with
        | false => exact ih (hno rfl)
        | true =>
          refine codeAny_handlers_suite_as ?_
          refine HandSPX.lands_againZ fl3 fun h4 fl4 up4 => ?_
          obtain ⟨oe4, vs4, he4, hz4, hd4, nL4, nF4⟩ := landed fl4
          have J4 := J.landed (s' := { heap := h4, gens := s'.gens, drawn := s'.drawn, toks := s'.toks, os := s'.os }) nb fl4.1 ((up.trans up3).trans up4) os ag
          have S4 := J4.suite he4 hd4 na nL4 nF4
          refine store_ok (X := X.suite a ((a, oe4) :: (X.pn ++ pins))) S4 hN hi (.inl hln) (v := .ref a) rfl (fun s5 I5 => ?_) (.inr hln)
          refine wpAny_mono ((hsu a oe4 cls d (X.pn ++ pins) hz4 ⟨vs4, hd4⟩).run [] _ _ H' (endsGone D i) I5 (hyes rfl a na)) (fun f s2 q => ?_) (fun _ _ z => z.elim)
          have q := back q
          cases f with
          | next =>
            obtain ⟨σ2, H2, I2, q⟩ := q
            exact gone_ok I2 hN hi hln fun s6 I6 => ⟨_, _, I6, q⟩
          | brk =>
            obtain ⟨σ2, H2, I2, q⟩ := q
            exact gone_ok I2 hN hi hln fun s6 I6 => ⟨_, _, I6, q⟩
          | cont =>
            obtain ⟨σ2, H2, I2, q⟩ := q
            exact gone_ok I2 hN hi hln fun s6 I6 => ⟨_, _, I6, q⟩
          | ret u =>
            obtain ⟨v, σ2, H2, I2, r, q⟩ := q
            exact gone_ok I2 hN hi hln fun s6 I6 => ⟨v, _, _, I6, r, q⟩
    exact go hh w
  · cases f with
    | next => obtain ⟨σ2, H2, I2, q⟩ := q; exact wpAny_execs_nil ⟨σ2, H2, I2.ofTry ok, q⟩
    | brk => obtain ⟨σ2, H2, I2, q⟩ := q; exact ⟨σ2, H2, I2.ofTry ok, q⟩
    | cont => obtain ⟨σ2, H2, I2, q⟩ := q; exact ⟨σ2, H2, I2.ofTry ok, q⟩
    | ret u => obtain ⟨v, σ2, H2, I2, r, q⟩ := q; exact ⟨v, σ2, H2, I2.ofTry ok, r, q⟩
end LL
namespace LL
open PySem PySem.Spec PyProof.Rows L2
/-! ### own errors of one field, and defs that raise them -/
/-- an error class of one field, at C; its __init__ at f -/
structure ErC (K : PySem.W.Frag) (mg : Str → Option Value) (x fld : Str) (st : Stmt) where
  C : Addr
  f : Addr
  fd : FuncData
  qual : Str
  g : mg x = some (.ref C)
  oex : OexC K C
  xf : XfC K C
  no : PySem.W.findIn K (.ref C) fld = some none
  iC : PySem.W.findIn K (.ref C) "__init__" = some (some (.ref f))
  tI : PySem.W.typeIn K (.ref f) = some (.type "function")
  F : Fun K "__init__" qual st f fd
  b : Binds K fd ["self", fld] []
  te : PySem.W.exmOne K (.ref C) (.ref C) = some true
/-- what such an __init__ does -/
def spInitE (K : PySem.W.Frag) (fld : Str) : Sp := fun vs H Q _ => ∃ (a C : Addr) (v : V), vs = [.ref a, v] ∧ OexC K C ∧ PySem.W.findIn K (.ref C) fld = some none ∧ H a = some (exo a C none) ∧
  ∀ dx, H dx = none → dx ≠ a → Q .non (upd (upd H dx (exd dx [(fld, v)])) a (exo a C (some dx)))
/-- what is left to show where X(v) is made -/
theorem mkE {K : PySem.W.Frag} {mg : Str → Option Value} {x fld : Str} {st : Stmt} (R : ErC K mg x fld st) {v : V} {H1 : Hp} {Q : XK} (q : ∀ d, H1 d = none → Q (.ref R.C) (some d) (upd H1 d (.xd [(fld, v)]))) :
    [v].length ≤ 1000 ∧ ∀ a, H1 a = none → spInitE K fld (.ref a :: ([v] ++ [])) (upd H1 a (exo a R.C none))
      (fun y H2 => y = .non ∧ ∃ d fs, H2 a = some (exo a R.C (some d)) ∧ H2 d = some (exd d fs) ∧ H1 d = none ∧ Q (.ref R.C) (some d) (upd (del H2 a) d (.xd fs))) (fun _ _ _ => False) := by
  refine ⟨(by decide : 1 ≤ 1000), fun a ha => ?_⟩
  refine ⟨a, R.C, v, rfl, R.oex, R.no, upd_same, fun dx hdx ne => ?_⟩
  refine ⟨rfl, dx, [(fld, v)], upd_same, by rw [upd_ne ne, upd_same], ?_, ?_⟩
  · rw [upd_ne ne] at hdx
    exact hdx
  · have e : upd (del (upd (upd (upd H1 a (exo a R.C none)) dx (exd dx [(fld, v)])) a (exo a R.C (some dx))) a) dx (.xd [(fld, v)]) = upd H1 dx (.xd [(fld, v)]) := by
      funext b
      unfold L2.upd L2.del
      by_cases h : b = dx
      · simp [h]
      · by_cases h2 : b = a
        · subst h2
          simp [h, ha]
        · simp [h, h2]
    rw [e]
    refine q dx ?_
    rw [upd_ne ne] at hdx
    exact hdx
section
variable {X : Cx}
/-- X(e), an error -/
theorem pmkE {P : Program} {w : World} {K : PySem.W.Frag} {mg : Str → Option Value} {base : Heap} {x fld : Str} {st : Stmt} {e : Expr} {ta : TA} {p pos : Pos} {j k : Nat} (R : ErC K mg x fld st) (G : FnOk P w K mg base CX0 j R.f R.fd ["self", fld] (spInitE K fld))
    (e1 : X.prog = P) (e2 : X.w = w) (e3 : X.K = K) (e4 : X.mg = mg) (e5 : X.base = base)
    (hr : Room k X.A) (hjk : j + 1 ≤ k) (hg : Gl X x) (ha : PA X [e] ta) (hd : (x == ("__debug__" : Str)) = false := by decide)
    (hst : starEach [e] X.env = (false, eval e X.env) :: starEach [] X.env := by rfl) : PMk X (.Call (.Name x p) [e] [] pos) (tMkO R.C (spInitE K fld) [] ta) := by
  subst e1 e2 e3 e4 e5
  exact pmk_oex R.oex R.iC R.tI G (hr.mono hjk) R.b .nil pass0 hg R.g ha hd hst (by rfl)
/-- a call of a def that may raise -/
theorem pcallX {x : Str} {st : Stmt} {ps : List Str} {sp : Sp} {j k : Nat} {e : Expr} {es : List Expr} {t : TA} {p pos : Pos} {W : WX}
    (D : Dn X.K X.mg x st ps) (G : FnOk X.prog X.w X.K X.mg X.base (CX X.prog X.w) j D.f D.fd ps sp) (tk : Takes X W) (hr : Room k X.A) (hjk : j ≤ k)
    (hg : Gl X x) (ha : PA X (e :: es) t) (hd : (x == ("__debug__" : Str)) = false := by decide)
    (he : starEach (e :: es) X.env = (false, eval e X.env) :: starEach es X.env := by rfl)
    (hp : (backTo pos (starEach es X.env)).any (·.1) = false := by rfl) :
    PE X (.Call (.Name x p) (e :: es) [] pos) (tCallS sp (WE W) t) :=
  pe_callS G (hr.mono hjk) hg D.m D.F.kp D.b (fun σ => passAt tk σ) ha hd he hp
/-- e.fld in a suite -/
theorem pe_fldE {a : Addr} {oe : Obj} {cls : Value} {d : Option Addr} {pn : List (Addr × Obj)} {x fld : Str} {st : Stmt} {e : Expr} {te : TE} {pos : Pos} (R : ErC X.K X.mg x fld st) (hz : Zc cls d oe) (hf : ∃ vs, oe.data = .fields vs)
    (he : PE (X.suite a ((a, oe) :: pn)) e te) (hb : attributeBase e fld X.env (eval e X.env) = eval e X.env := by rfl) : PE (X.suite a ((a, oe) :: pn)) (.Attribute e fld pos) (tXf a cls d R.C fld te) :=
  pe_xf R.xf R.no hz hf he hb
end
/-- an exception class, by its name alone -/
structure ExN (mg : Str → Option Value) (x : Str) where
  C : Addr
  g : mg x = some (.ref C)
def exn_mk {mg : Str → Option Value} {x : Str} {C : Addr} (g : mg x = some (.ref C)) : ExN mg x := ⟨C, g⟩
end LL
namespace LL
open PySem PySem.Spec PyProof.Rows L2
theorem bex_slot : builtinKind "BaseException.__getattribute__" = some Manifest.AttrKind.slot := PySem.W.kin_classE._proof_2
theorem bex_split : splitId "BaseException.__getattribute__" = some ("BaseException", "__getattribute__") := PySem.W.kin_classE._proof_3
/-! ### isinstance of a caught own error that has fields -/
theorem kin_classX {prog : Program} {w : World} {A : Around} {E : Value → Shared → Prop} {s : Shared} {K : PySem.W.Frag} {x D : Addr} {ox od : Obj} {Q : Option Value → Shared → Prop}
    (hga : PySem.W.findIn K (.ref D) "__getattribute__" = some (some (.builtin "BaseException.__getattribute__"))) (hgt : PySem.W.findIn K (.ref D) "__getattr__" = some none)
    (hsub : PySem.W.subIn K (.ref D) (.type "BaseException") = some true) (hdct : PySem.W.hasDictIn K D = true) (ha : PySem.W.findIn K (.ref D) "__class__" = some (some (.builtin "object.__class__")))
    (hn : PySem.W.specialIn K (.builtin "object.__class__") "__get__" = some (some (.builtin "getset_descriptor.__get__"))) (htk : PySem.W.takesIn K (.builtin "object.__class__") = some true)
    (hm : PySem.W.mroIn K D (.type "object") = some true) (X : K.In s.heap) (I : PySem.W.InstAt s.heap x ox D (some od))
    (h : Q (some (.ref D)) { heap := s.heap, gens := s.gens, drawn := s.drawn, toks := s.toks + 1, os := s.os }) : wpAny (model prog w) A (getAttr? (.ref x) "__class__") Q E s := by
  have hf := PySem.W.findObj_data (od := od) (by obtain ⟨cd, hc, _⟩ := PySem.W.any_some hdct; rw [hc]; rfl) ha hn htk
  obtain ⟨hp, g, d, t, os⟩ := s
  have L0 := PySem.W.InstAt.type (M := model prog w) I
  have L1 := PySem.W.looks_findIn (M := model prog w) X hga
  have L2 := PySem.W.looks_findIn (M := model prog w) X hgt
  have L3 := PySem.W.looks_find (M := model prog w) X I hf
  have sub := PySem.W.Looks.andThen (f := fun t => isSubtype t (.type "BaseException")) L0 (PySem.W.looks_subIn (M := model prog w) X hsub)
  have hx2 : (Value.builtin "BaseException.__getattribute__" == Value.builtin "object.__getattribute__") = false := by decide
  have hx1 : (onTheHeap (.ref D) && (Value.builtin "BaseException.__getattribute__" == Value.builtin "object.__getattribute__")) = false := by rw [hx2]; rfl
  have hb : hookBefore (.ref D) = typeLookup (.ref D) "__getattr__" := if_pos rfl
  have hc : ∀ n, callGetattribute (.ref x) n (.builtin "BaseException.__getattribute__") false = boundAndCalled (.builtin "BaseException.__getattribute__") (.ref x) n := fun n => if_neg (by decide)
  unfold getAttr? getAttrBy?
  refine wpAny_bind (wpAny_mkText (wpAny_bind (wpAny_attempt (wpAny_holding ?_))))
  refine wpAny_bind (L0.at (wpAny_bind (L1.at ?_)))
  show wpAny _ _ (if (onTheHeap (.ref D) && (Value.builtin "BaseException.__getattribute__" == Value.builtin "object.__getattribute__")) = true then _ else _) _ _ _
  rw [hx1, if_neg (by decide)]
  unfold getAttrByItsOwn
  rw [hb]
  refine wpAny_bind (L2.at (wpAny_bind (wpAny_attempt (wpAny_holding ?_))))
  rw [hc]
  unfold boundAndCalled
  rw [F.excAttr_ValueError.ga.bind (.ref x)]
  refine wpAny_bind (wpAny_pure ?_)
  show wpAny _ _ (call (.builtin "BaseException.__getattribute__") [.ref x, .str "__class__" t]) _ _ _
  refine wpAny_call ?_
  refine codeAny_call_builtin F.excAttr_ValueError.ga.plain F.entry_bexc_ga ?_
  have sub' : PySem.W.Looks (model prog w) hp (isInstance (.ref x) (.type "BaseException")) true := sub
  have ar := F.args_bexc_ga (.ref x) (.str "__class__" t)
  refine @PySem.W.check_slot _ _ _ _ _ _ _ _ _ _ _ bex_slot bex_split ?_ ?_ ?_
  · exact sub'
  · exact ar
  have sa : slotArgs "__getattribute__" 1 { pos := [Value.ref x, .str "__class__" t] } = pure (.ref x, [.str "__class__" t]) := rfl
  unfold Builtin.«object.__getattribute__»
  refine wpAny_bind (wpAny_of_eq sa ?_)
  have na : Builtin.ObjectAttr.attrName (.str "__class__" t) = pure "__class__" := rfl
  refine wpAny_bind (wpAny_of_eq na ?_)
  refine wpAny_bind (L0.at ?_)
  refine wpAny_bind (L3.at ?_)
  show wpAny _ _ (Builtin.ObjectAttr.bindTo (.builtin "getset_descriptor.__get__") (.builtin "object.__class__") (.ref x) (.ref D)) _ _ _
  unfold Builtin.ObjectAttr.bindTo
  refine wpAny_bind (wpAny_holding (wpAny_call (PySem.W.class_get X I hm ?_)))
  refine wpAny_pure ?_
  show wpAny _ _ (handedOut (.ref D)) _ _ _
  rw [PySem.W.handedOut_of rfl]
  exact wpAny_pure (wpAny_pure h)
/-- what is known of an object of such a class -/
theorem kitx_excX {K : PySem.W.Frag} {x D : Addr} {ox od : Obj} (C : ExcC K D) : PySem.W.KitX K (.ref x) (.ref D) fun h => PySem.W.InstAt h x ox D (some od) := by
  have b := PySem.W.handS_kitx_exc (x := x) (ox := ox) C.hg C.hk C.hs C.hd C.ha C.hn C.ht C.hm
  refine ⟨fun M h _ I => PySem.W.InstAt.type I, ?_, ?_, fun X I k => kin_classX C.hg C.hk C.hs C.hd C.ha C.hn C.ht C.hm X I k⟩
  · intro M h X I
    obtain ⟨cd, hcD, _⟩ := PySem.W.any_some C.hd
    unfold PySem.W.clsIn at hcD
    split at hcD
    · rename_i heq
      intro A' Q' E' s' k q
      exact wpAny_bind (wpAny_loadPart (k D _ (X D _ heq)) (wpAny_pure q))
    · cases hcD
  · exact b.ne
def rIsX (K : PySem.W.Frag) (D a : Addr) (cls : Value) (d : Option Addr) : List V → Hp → VK → Prop := fun xs H Q =>
  ∃ (c : V) (cv : Value) (b : Bool) (dx : Addr) (fs : List (Str × V)), xs = [.ref a, c] ∧ cls = .ref D ∧ d = some dx ∧ (∀ u, RelV c u → u = cv) ∧ PySem.W.kitOne K (.ref D) cv = some b ∧ H dx = some (.xd fs) ∧ Q (.bl b) H
/-- isinstance(e, X), e being caught -/
theorem call_isEX {X : Cx} {a D : Addr} {cls : Value} {d : Option Addr} {oe : Obj} {pn : List (Addr × Obj)} (C : ExcC X.K D) (hz : Zc cls d oe) (hf : ∃ vs, oe.data = .fields vs) :
    CallR (X.suite a ((a, oe) :: pn)) (.builtin "isinstance") (rIsX X.K D a cls d) := by
  rintro pins s σ H xs us Q I r ⟨c, cv, b, dx, fs, rfl, hcls, hdd, hcv, e, hd, q⟩
  cases r with
  | cons rx rr =>
    cases rr with
    | cons rt rr =>
      cases rr
      obtain rfl := hcv _ rt
      have rx : _ = _ := rx
      have p := I.pin (a, oe) List.mem_cons_self
      have ok := I.hok dx _ hd
      have : ∃ od, s.heap.get? dx = some od := by
        unfold ObjOk at ok
        obtain ⟨mA, ns, _⟩ := ok
        obtain ⟨o, es, ep, q, _⟩ := ns
        exact ⟨o, q⟩
      obtain ⟨od, hod⟩ := this
      obtain ⟨ocls, odict, odata, osl⟩ := oe
      obtain ⟨vs, hv⟩ := hf
      obtain ⟨h1, h2⟩ := hz
      have h1 : ocls = cls := h1
      have h2 : odict = d := h2
      have hv : odata = .fields vs := hv
      subst h1 h2 hv rx hcls hdd
      have J : PySem.W.InstAt s.heap a ⟨.ref D, some dx, .fields vs, osl⟩ D (some od) := ⟨p.1, rfl, rfl, hod⟩
      refine PySem.W.kia_one (kitx_excX C) I.kIn J e (fun z => nomatch z) fun tk => ?_
      exact ⟨.bl b, H, I.kept fun x _ z => z, rfl, q⟩
/-- whether a class stands under another one of the program -/
theorem kit_ref {K : PySem.W.Frag} {C D : Addr} {b : Bool} (hd : PySem.W.hasDictIn K C = true) (ty : PySem.W.typeIn K (.ref C) = some (.type "type")) (ne : (Value.ref D == Value.ref C) = false)
    (sb : PySem.W.subIn K (.ref D) (.ref C) = some b) : PySem.W.kitOne K (.ref D) (.ref C) = some b := by
  obtain ⟨cd, hc, _⟩ := PySem.W.any_some hd
  unfold PySem.W.kitOne PySem.W.kitCls
  rw [ne, if_neg Bool.false_ne_true]
  show (if ((PySem.W.clsIn K C).isSome && PySem.W.typeIn K (.ref C) == some (.type "type")) = true then PySem.W.subIn K (.ref D) (.ref C) else none) = some b
  rw [hc, ty, sb]
  exact if_pos rfl
theorem relV_ref {a : Addr} : ∀ u, RelV (.ref a) u → u = .ref a := fun _ h => h
end LL
namespace LL
/-! ### the tidy row of the numbers that a test lets through -/
def runStep (r : List Pr) (k : Nat) : List Pr :=
  match r.getLast? with
  | some z => if z.2 = k then r.dropLast ++ [(z.1, k + 1)] else r ++ [(k, k + 1)]
  | none => [(k, k + 1)]
def rowS (S : Nat → Bool) : Nat → List Pr
  | 0 => []
  | n + 1 => if S n = true then runStep (rowS S n) n else rowS S n
theorem runStep_nil (k : Nat) : runStep [] k = [(k, k + 1)] := rfl
theorem runStep_grow (q : List Pr) (x k : Nat) : runStep (q ++ [(x, k)]) k = q ++ [(x, k + 1)] := by
  unfold runStep
  rw [List.getLast?_append]
  simp
theorem runStep_app (q : List Pr) (z : Pr) (k : Nat) (h : z.2 ≠ k) : runStep (q ++ [z]) k = q ++ [z] ++ [(k, k + 1)] := by
  unfold runStep
  rw [List.getLast?_append]
  simp [h]
def areaR (r : List Pr) : Nat := (r.map fun z => z.2 - z.1).sum
theorem areaR_app (r q : List Pr) : areaR (r ++ q) = areaR r + areaR q := by simp [areaR]
theorem areaR_one (x y : Nat) : areaR [(x, y)] = y - x := by simp [areaR]
theorem tidy_last {r : List Pr} {z y : Pr} : ∀ {b : Nat}, TidyFrom b (r ++ [z]) → y ∈ r ++ [z] → y.2 ≤ z.2 := by
  induction r with
  | nil =>
    intro b h m
    have m : y ∈ [z] := m
    rw [List.mem_singleton.mp m]
    exact Nat.le_refl _
  | cons x r ih =>
    intro b h m
    obtain ⟨h1, h2, h3, h4⟩ := h
    have h4 : TidyFrom (x.2 + 1) (r ++ [z]) := h4
    rcases List.mem_cons.mp m with rfl | m
    · have hz : has (r ++ [z]) z.1 = true := by
        rw [has_app, has_one]
        have : z.1 < z.2 := (h4.valid z (List.mem_append_right _ (List.mem_singleton.mpr rfl))).1
        simp [this]
      have := (h4.low hz).1
      have : z.1 < z.2 := (h4.valid z (List.mem_append_right _ (List.mem_singleton.mpr rfl))).1
      omega
    · exact ih h4 m
theorem rowS_ok (S : Nat → Bool) : ∀ n, n ≤ 400 → Tidy (rowS S n) ∧ (∀ k, has (rowS S n) k = (decide (k < n) && S k)) ∧ (∀ z ∈ rowS S n, z.2 ≤ n) ∧ areaR (rowS S n) = ((List.range n).filter S).length := by
  intro n
  induction n with
  | zero => exact fun _ => ⟨trivial, fun k => by simp [rowS, has_nil], (fun z hz => nomatch hz), rfl⟩
  | succ n ih =>
    intro l
    obtain ⟨ti, ha, lo, ar⟩ := ih (by omega)
    cases q : S n with
    | false =>
      have e : rowS S (n + 1) = rowS S n := by simp [rowS, q]
      rw [e]
      refine ⟨ti, fun k => ?_, fun z hz => Nat.le_succ_of_le (lo z hz), ?_⟩
      · rw [ha]
        by_cases h : k = n
        · subst h
          simp [q]
        · rw [decide_eq_decide.mpr (show k < n ↔ k < n + 1 by omega)]
      · rw [ar, List.range_succ, List.filter_append]
        simp [q]
    | true =>
      have e : rowS S (n + 1) = runStep (rowS S n) n := by simp [rowS, q]
      rw [e]
      have fl : ((List.range (n + 1)).filter S).length = ((List.range n).filter S).length + 1 := by
        rw [List.range_succ, List.filter_append]
        simp [q]
      by_cases ne : rowS S n = []
      · rw [ne] at ha ar ⊢
        rw [runStep_nil]
        refine ⟨⟨Nat.zero_le _, Nat.lt_succ_self _, l, trivial⟩, fun k => ?_, fun z hz => ?_, ?_⟩
        · rw [has_one]
          have := ha k
          rw [has_nil] at this
          by_cases h : k = n
          · subst h
            simp [q]
          · by_cases h2 : k < n
            · have this : S k = false := by simpa [h2] using this.symm
              rw [this, Bool.and_false, decide_eq_false (show ¬ n ≤ k by omega), Bool.false_and]
            · rw [decide_eq_false (show ¬ k < n + 1 by omega), Bool.false_and, Bool.and_false]
        · rw [List.mem_singleton.mp hz]
          exact Nat.le_refl _
        · rw [areaR_one, fl, ← ar]
          simp [areaR]
      · obtain ⟨r, z, er⟩ := snoc_of ne
        rw [er] at ti ha lo ar ⊢
        by_cases h : z.2 = n
        · obtain ⟨x, y⟩ := z
          have h : y = n := h
          subst h
          rw [runStep_grow]
          have xy : x < y := (TidyFrom.valid (b := 0) ti (x, y) (List.mem_append_right _ (List.mem_singleton.mpr rfl))).1
          refine ⟨TidyFrom.grow ti l, fun k => ?_, fun w hw => ?_, ?_⟩
          · have := ha k
            rw [has_app, has_one] at this ⊢
            by_cases h : k = y
            · subst h
              simp [q, Nat.le_of_lt xy]
            · rw [decide_eq_decide.mpr (show k < y + 1 ↔ k < y by omega), this]
          · rcases List.mem_append.mp hw with hw | hw
            · have := lo w (List.mem_append_left _ hw)
              omega
            · rw [List.mem_singleton.mp hw]
              exact Nat.le_refl _
          · rw [fl, ← ar, areaR_app, areaR_app, areaR_one, areaR_one]
            omega
        · rw [runStep_app _ _ _ h]
          have zl := lo z (List.mem_append_right _ (List.mem_singleton.mpr rfl))
          refine ⟨Tidy.app ti (fun w hw => ?_) (Nat.lt_succ_self _) l, fun k => ?_, fun w hw => ?_, ?_⟩
          · have := tidy_last ti hw
            omega
          · rw [has_app, ha, has_one]
            by_cases h : k = n
            · subst h
              simp [q]
            · rw [decide_eq_decide.mpr (show k < n + 1 ↔ k < n by omega)]
              by_cases h2 : k < n
              · rw [decide_eq_false (show ¬ n ≤ k by omega), Bool.false_and, Bool.or_false]
              · rw [decide_eq_false h2, Bool.false_and, Bool.and_false]
                rfl
          · rcases List.mem_append.mp hw with hw | hw
            · exact Nat.le_succ_of_le (lo w hw)
            · rw [List.mem_singleton.mp hw]
              exact Nat.le_refl _
          · rw [fl, ← ar, areaR_app, areaR_one]
            omega
/-- the row by its numbers, one behind the other -/
theorem rowS_fold (S : Nat → Bool) (n : Nat) : ((List.range n).filter S).foldl runStep [] = rowS S n := by
  induction n with
  | zero => rfl
  | succ n ih =>
    rw [List.range_succ, List.filter_append, List.foldl_append, ih]
    cases q : S n <;> simp [q, rowS]
theorem rowS_congr {S R : Nat → Bool} {n : Nat} (h : ∀ k, k < n → S k = R k) : rowS S n = rowS R n := by
  induction n with
  | zero => rfl
  | succ n ih =>
    have := ih fun k l => h k (by omega)
    simp only [rowS, this, h n (Nat.lt_succ_self _)]
theorem rowS_none {S : Nat → Bool} {n : Nat} (h : ∀ k, k < n → S k = false) : rowS S n = [] := by
  rw [rowS_congr (R := fun _ => false) h]
  induction n with
  | zero => rfl
  | succ n ih =>
    simp only [rowS]
    exact ih fun k l => h k (by omega)
/-! ### strips: longest runs of days of one row -/
abbrev Strip := Nat × Nat × List Pr
def stripStep (ss : List Strip) (d : Nat) (row : List Pr) : List Strip :=
  match ss.getLast? with
  | some s => if s.2.2 = row then ss.dropLast ++ [(s.1, d + 1, row)] else ss ++ [(d, d + 1, row)]
  | none => [(d, d + 1, row)]
def stripsS (R : Nat → List Pr) : Nat → List Strip
  | 0 => []
  | d + 1 => stripStep (stripsS R d) d (R d)
/-- strips that follow one another from a day to another one -/
def Chn (R : Nat → List Pr) : Nat → List Strip → Nat → Prop
  | b, [], e => b = e
  | b, s :: ss, e => b = s.1 ∧ s.1 < s.2.1 ∧ (∀ d, s.1 ≤ d → d < s.2.1 → R d = s.2.2) ∧ (∀ t, ss.head? = some t → t.2.2 ≠ s.2.2) ∧ Chn R s.2.1 ss e
theorem Chn.le {R : Nat → List Pr} : ∀ {ss : List Strip} {b e : Nat}, Chn R b ss e → b ≤ e
  | [], _, _, h => Nat.le_of_eq h
  | s :: ss, b, e, ⟨h1, h2, _, _, h5⟩ => by
    have := h5.le
    omega
theorem stripStep_nil (d : Nat) (row : List Pr) : stripStep [] d row = [(d, d + 1, row)] := rfl
theorem stripStep_grow (q : List Strip) (x y d : Nat) (row : List Pr) : stripStep (q ++ [(x, y, row)]) d row = q ++ [(x, d + 1, row)] := by
  unfold stripStep
  rw [List.getLast?_append]
  simp
theorem stripStep_app (q : List Strip) (s : Strip) (d : Nat) (row : List Pr) (h : s.2.2 ≠ row) : stripStep (q ++ [s]) d row = q ++ [s] ++ [(d, d + 1, row)] := by
  unfold stripStep
  rw [List.getLast?_append]
  simp [h]
theorem Chn.grow {R : Nat → List Pr} : ∀ {ss : List Strip} {b x e : Nat} {row : List Pr}, Chn R b (ss ++ [(x, e, row)]) e → R e = row → Chn R b (ss ++ [(x, e + 1, row)]) (e + 1)
  | [], b, x, e, row, ⟨h1, h2, h3, h4, _⟩, q => by
    refine ⟨h1, Nat.lt_succ_of_lt h2, fun d l u => ?_, h4, rfl⟩
    by_cases z : d = e
    · rw [z]; exact q
    · exact h3 d l (by have u : d < e + 1 := u; show d < e; omega)
  | s :: ss, b, x, e, row, ⟨h1, h2, h3, h4, h5⟩, q => by
    refine ⟨h1, h2, h3, fun t ht => ?_, Chn.grow h5 q⟩
    cases ss with
    | nil =>
      obtain rfl : (x, e + 1, row) = t := Option.some.inj ht
      exact h4 (x, e, row) rfl
    | cons y ss => exact h4 t ht
theorem Chn.snoc {R : Nat → List Pr} : ∀ {ss : List Strip} {b e : Nat} {s : Strip} {row : List Pr}, Chn R b (ss ++ [s]) e → s.2.2 ≠ row → R e = row → Chn R b (ss ++ [s] ++ [(e, e + 1, row)]) (e + 1)
  | [], b, e, s, row, ⟨h1, h2, h3, h4, h5⟩, n, q => by
    have h5 : s.2.1 = e := h5
    refine ⟨h1, h2, h3, fun t ht => ?_, h5, Nat.lt_succ_self _, fun d l u => ?_, (fun t ht => nomatch ht), rfl⟩
    · obtain rfl : (e, e + 1, row) = t := Option.some.inj ht
      exact fun z => n z.symm
    · have : d = e := by have l : e ≤ d := l; have u : d < e + 1 := u; omega
      rw [this]
      exact q
  | y :: ss, b, e, s, row, ⟨h1, h2, h3, h4, h5⟩, n, q => by
    refine ⟨h1, h2, h3, fun t ht => ?_, Chn.snoc h5 n q⟩
    cases ss with
    | nil => exact h4 t ht
    | cons x ss => exact h4 t ht
theorem strips_ok (R : Nat → List Pr) : ∀ D, Chn R 0 (stripsS R D) D
  | 0 => rfl
  | D + 1 => by
    have ih := strips_ok R D
    show Chn R 0 (stripStep (stripsS R D) D (R D)) (D + 1)
    by_cases ne : stripsS R D = []
    · rw [ne] at ih ⊢
      have ih : 0 = D := ih
      subst ih
      exact ⟨rfl, Nat.lt_succ_self _, fun d l u => by have : d = 0 := by have u : d < 1 := u; omega
                                                      rw [this], (fun t ht => nomatch ht), rfl⟩
    · have e := (List.dropLast_concat_getLast ne).symm
      generalize (stripsS R D).dropLast = q at e
      generalize (stripsS R D).getLast ne = s at e
      rw [e] at ih ⊢
      have last : s.2.1 = D := by
        clear e ne
        revert ih
        generalize (0 : Nat) = b
        revert b
        induction q with
        | nil => exact fun b h => h.2.2.2.2
        | cons x q ih2 => exact fun b h => ih2 _ h.2.2.2.2
      obtain ⟨x, y, row⟩ := s
      have last : y = D := last
      subst last
      by_cases h : row = R y
      · subst h
        rw [stripStep_grow]
        exact Chn.grow ih rfl
      · rw [stripStep_app _ _ _ _ h]
        exact Chn.snoc ih h rfl

/-! ### boxes of points -/
abbrev BoxT (κ : Type) := κ × Nat × Nat × Nat × Nat
section
variable {κ : Type} [DecidableEq κ]
def boxesK (k : κ) (ss : List Strip) : List (BoxT κ) := ss.flatMap fun s => s.2.2.map fun z => (k, s.1, s.2.1, z.1, z.2)
/-- the tidy boxes of the points of keys that a test lets through -/
def tidyB (P : κ → Nat → Nat → Bool) (D T : Nat) (keys : List κ) : List (BoxT κ) := keys.flatMap fun k => boxesK k (stripsS (fun d => rowS (P k d) T) D)
/-- a box has a key and a day -/
def onDay (b : BoxT κ) (k : κ) (d : Int) : Bool := decide (b.1 = k) && (decide ((b.2.1 : Int) ≤ d) && decide (d < (b.2.2.1 : Int)))
def inBx (b : BoxT κ) (k : κ) (d t : Int) : Bool := onDay b k d && (decide ((b.2.2.2.1 : Int) ≤ t) && decide (t < (b.2.2.2.2 : Int)))
/-- the turns of a key and a day, in the order of the boxes -/
def turnsL (bs : List (BoxT κ)) (k : κ) (d : Int) : List Pr := (bs.filter fun b => onDay b k d).map fun b => (b.2.2.2.1, b.2.2.2.2)
theorem turnsL_app (as bs : List (BoxT κ)) (k : κ) (d : Int) : turnsL (as ++ bs) k d = turnsL as k d ++ turnsL bs k d := by simp [turnsL]
theorem turnsL_strip (k k2 : κ) (s : Strip) (d : Int) : turnsL (s.2.2.map fun z => (k, s.1, s.2.1, z.1, z.2)) k2 d =
    if k = k2 ∧ (s.1 : Int) ≤ d ∧ d < (s.2.1 : Int) then s.2.2 else [] := by
  obtain ⟨x, y, row⟩ := s
  show turnsL (row.map fun z => (k, x, y, z.1, z.2)) k2 d = if k = k2 ∧ (x : Int) ≤ d ∧ d < (y : Int) then row else []
  induction row with
  | nil => simp [turnsL]
  | cons z row ih =>
    rw [List.map_cons, ← List.singleton_append, turnsL_app, ih]
    by_cases h : k = k2 ∧ (x : Int) ≤ d ∧ d < (y : Int)
    · rw [if_pos h, if_pos h]
      simp [turnsL, onDay, h]
    · rw [if_neg h, if_neg h]
      have : onDay (k, x, y, z.1, z.2) k2 d = false := by
        cases q : onDay (k, x, y, z.1, z.2) k2 d with
        | false => rfl
        | true =>
          have q1 := Bool.and_eq_true_iff.mp q
          have q2 := Bool.and_eq_true_iff.mp q1.2
          exact absurd ⟨of_decide_eq_true q1.1, of_decide_eq_true q2.1, of_decide_eq_true q2.2⟩ h
      simp [turnsL, this]
theorem turnsL_out (k : κ) (R : Nat → List Pr) : ∀ (ss : List Strip) (b e : Nat) (d : Int), Chn R b ss e → (d < b ∨ (e : Int) ≤ d) → turnsL (boxesK k ss) k d = []
  | [], _, _, _, _, _ => rfl
  | s :: ss, b, e, d, ⟨h1, h2, h3, h4, h5⟩, o => by
    have e1 : boxesK k (s :: ss) = (s.2.2.map fun z => (k, s.1, s.2.1, z.1, z.2)) ++ boxesK k ss := rfl
    have l := h5.le
    rw [e1, turnsL_app, turnsL_strip, turnsL_out k R ss _ _ d h5 (by omega), if_neg (by omega)]
    rfl
theorem turnsL_in (k : κ) (R : Nat → List Pr) : ∀ (ss : List Strip) (b e d : Nat), Chn R b ss e → b ≤ d → d < e → turnsL (boxesK k ss) k (d : Int) = R d
  | [], b, e, d, h, l, u => by
    have h : b = e := h
    omega
  | s :: ss, b, e, d, ⟨h1, h2, h3, h4, h5⟩, l, u => by
    have e1 : boxesK k (s :: ss) = (s.2.2.map fun z => (k, s.1, s.2.1, z.1, z.2)) ++ boxesK k ss := rfl
    rw [e1, turnsL_app, turnsL_strip]
    by_cases h : d < s.2.1
    · rw [if_pos ⟨rfl, by omega, by omega⟩, turnsL_out k R ss _ _ _ h5 (by omega), List.append_nil, h3 d (by omega) h]
    · rw [if_neg (by omega), turnsL_in k R ss _ _ d h5 (by omega) u]
      rfl
theorem turnsL_key (k k2 : κ) (n : k ≠ k2) : ∀ (ss : List Strip) (d : Int), turnsL (boxesK k ss) k2 d = []
  | [], _ => rfl
  | s :: ss, d => by
    have e1 : boxesK k (s :: ss) = (s.2.2.map fun z => (k, s.1, s.2.1, z.1, z.2)) ++ boxesK k ss := rfl
    rw [e1, turnsL_app, turnsL_strip, if_neg (fun z => n z.1), turnsL_key k k2 n ss]
    rfl
theorem tidyB_strange (P : κ → Nat → Nat → Bool) (D T : Nat) : ∀ (keys : List κ) (k : κ) (d : Int), k ∉ keys → turnsL (tidyB P D T keys) k d = []
  | [], _, _, _ => rfl
  | y :: ks, k, d, h => by
    have e1 : tidyB P D T (y :: ks) = boxesK y (stripsS (fun d => rowS (P y d) T) D) ++ tidyB P D T ks := rfl
    rw [e1, turnsL_app, turnsL_key _ _ (fun z => h (by rw [z]; exact List.mem_cons_self)), tidyB_strange P D T ks k d (fun z => h (List.mem_cons_of_mem _ z))]
    rfl
theorem tidyB_turns (P : κ → Nat → Nat → Bool) (D T : Nat) : ∀ (keys : List κ) (k : κ) (d : Nat), keys.Nodup → k ∈ keys → d < D → turnsL (tidyB P D T keys) k (d : Int) = rowS (P k d) T
  | [], _, _, _, m, _ => nomatch m
  | y :: ks, k, d, nd, m, l => by
    have e1 : tidyB P D T (y :: ks) = boxesK y (stripsS (fun d => rowS (P y d) T) D) ++ tidyB P D T ks := rfl
    obtain ⟨n1, n2⟩ := List.nodup_cons.mp nd
    rw [e1, turnsL_app]
    by_cases h : y = k
    · subst h
      rw [turnsL_in y _ _ _ _ d (strips_ok _ D) (Nat.zero_le _) l, tidyB_strange P D T ks y _ n1, List.append_nil]
    · rw [turnsL_key _ _ h, List.nil_append]
      rcases List.mem_cons.mp m with z | m
      · exact absurd z.symm h
      · exact tidyB_turns P D T ks k d n2 m l
theorem tidyB_beyond (P : κ → Nat → Nat → Bool) (D T : Nat) : ∀ (keys : List κ) (k : κ) (d : Int), (d < 0 ∨ (D : Int) ≤ d) → turnsL (tidyB P D T keys) k d = []
  | [], _, _, _ => rfl
  | y :: ks, k, d, o => by
    have e1 : tidyB P D T (y :: ks) = boxesK y (stripsS (fun d => rowS (P y d) T) D) ++ tidyB P D T ks := rfl
    rw [e1, turnsL_app, tidyB_beyond P D T ks k d o]
    by_cases h : y = k
    · subst h
      rw [turnsL_out y _ _ _ _ d (strips_ok _ D) (by omega)]
      rfl
    · rw [turnsL_key _ _ h]
      rfl
/-- a box that has a point tells a turn of the key and the day -/
theorem anyBx_turns (bs : List (BoxT κ)) (k : κ) (d t : Int) : (bs.any fun b => inBx b k d t) = (turnsL bs k d).any fun z => decide ((z.1 : Int) ≤ t) && decide (t < (z.2 : Int)) := by
  induction bs with
  | nil => rfl
  | cons b bs ih =>
    rw [← List.singleton_append, turnsL_app, List.any_append, List.any_append, ih]
    congr 1
    cases q : onDay b k d <;> simp [turnsL, inBx, q]
theorem hasI (r : List Pr) (t : Int) : (r.any fun z => decide ((z.1 : Int) ≤ t) && decide (t < (z.2 : Int))) = (decide (0 ≤ t) && has r t.toNat) := by
  by_cases h : 0 ≤ t
  · obtain ⟨n, rfl⟩ := Int.eq_ofNat_of_zero_le h
    rw [decide_eq_true h, Bool.true_and]
    unfold has
    congr 1
    funext z
    rw [Int.toNat_natCast]
    congr 1
    · exact decide_eq_decide.mpr Int.ofNat_le
    · exact decide_eq_decide.mpr Int.ofNat_lt
  · rw [decide_eq_false h, Bool.false_and, List.any_eq_false]
    intro z _ q
    have q := of_decide_eq_true (Bool.and_eq_true_iff.mp q).1
    omega
/-- which points the boxes have -/
theorem tidyB_has (P : κ → Nat → Nat → Bool) {D T : Nat} (hT : T ≤ 400) {keys : List κ} (nd : keys.Nodup) (k : κ) (d t : Int) :
    ((tidyB P D T keys).any fun b => inBx b k d t) = (decide (k ∈ keys) && (decide (0 ≤ d ∧ d < (D : Int)) && (decide (0 ≤ t ∧ t < (T : Int)) && P k d.toNat t.toNat))) := by
  rw [anyBx_turns, hasI]
  by_cases m : k ∈ keys
  · rw [decide_eq_true m, Bool.true_and]
    by_cases l : 0 ≤ d ∧ d < (D : Int)
    · rw [decide_eq_true l, Bool.true_and]
      obtain ⟨n, rfl⟩ := Int.eq_ofNat_of_zero_le l.1
      rw [tidyB_turns P D T keys k n nd m (by have := l.2; omega), (rowS_ok _ T hT).2.1, Int.toNat_natCast, ← Bool.and_assoc]
      congr 1
      rw [Bool.eq_iff_iff]
      simp only [Bool.and_eq_true, decide_eq_true_eq]
      omega
    · rw [tidyB_beyond P D T keys k d (by omega), decide_eq_false l, has_nil, Bool.and_false, Bool.false_and]
  · rw [tidyB_strange P D T keys k d m, has_nil, decide_eq_false m, Bool.and_false, Bool.false_and]
/-! ### how many points -/
def areaB (bs : List (BoxT κ)) : Nat := (bs.map fun b => (b.2.2.1 - b.2.1) * (b.2.2.2.2 - b.2.2.2.1)).sum
theorem areaB_app (as bs : List (BoxT κ)) : areaB (as ++ bs) = areaB as + areaB bs := by simp [areaB]
theorem areaB_strip (k : κ) (s : Strip) : areaB (s.2.2.map fun z => (k, s.1, s.2.1, z.1, z.2)) = (s.2.1 - s.1) * areaR s.2.2 := by
  obtain ⟨x, y, row⟩ := s
  show areaB (row.map fun z => (k, x, y, z.1, z.2)) = (y - x) * areaR row
  induction row with
  | nil => rfl
  | cons z row ih =>
    rw [List.map_cons, ← List.singleton_append, areaB_app, ih]
    simp [areaB, areaR, Nat.mul_add]
/-- the sum over the days from b on, n of them -/
def sumFrom (f : Nat → Nat) (b : Nat) : Nat → Nat
  | 0 => 0
  | n + 1 => f b + sumFrom f (b + 1) n
theorem sumFrom_app (f : Nat → Nat) : ∀ (n b m : Nat), sumFrom f b (n + m) = sumFrom f b n + sumFrom f (b + n) m
  | 0, b, m => by simp [sumFrom]
  | n + 1, b, m => by
    rw [Nat.succ_add]
    show f b + sumFrom f (b + 1) (n + m) = f b + sumFrom f (b + 1) n + sumFrom f (b + (n + 1)) m
    rw [sumFrom_app f n (b + 1) m, show b + 1 + n = b + (n + 1) by omega]
    omega
theorem sumFrom_const (f : Nat → Nat) (c : Nat) : ∀ (n b : Nat), (∀ d, b ≤ d → d < b + n → f d = c) → sumFrom f b n = n * c
  | 0, b, _ => by simp [sumFrom]
  | n + 1, b, h => by
    show f b + sumFrom f (b + 1) n = (n + 1) * c
    rw [h b (Nat.le_refl _) (by omega), sumFrom_const f c n (b + 1) (fun d l u => h d (by omega) (by omega)), Nat.succ_mul]
    omega
theorem areaB_chain (k : κ) (R : Nat → List Pr) : ∀ (ss : List Strip) (b e : Nat), Chn R b ss e → areaB (boxesK k ss) = sumFrom (fun d => areaR (R d)) b (e - b)
  | [], b, e, h => by
    have h : b = e := h
    subst h
    rw [Nat.sub_self]
    rfl
  | s :: ss, b, e, ⟨h1, h2, h3, h4, h5⟩ => by
    have e1 : boxesK k (s :: ss) = (s.2.2.map fun z => (k, s.1, s.2.1, z.1, z.2)) ++ boxesK k ss := rfl
    have l := h5.le
    rw [e1, areaB_app, areaB_strip, areaB_chain k R ss _ _ h5, show e - b = (s.2.1 - s.1) + (e - s.2.1) by omega, sumFrom_app, show b + (s.2.1 - s.1) = s.2.1 by omega]
    congr 1
    refine (sumFrom_const _ (areaR s.2.2) _ _ (fun d l u => ?_)).symm
    show areaR (R d) = _
    rw [h3 d (by omega) (by omega)]
/-- the points of keys, one by one -/
def ptsOf (P : κ → Nat → Nat → Bool) (D T : Nat) (keys : List κ) : List (κ × Nat × Nat) :=
  keys.flatMap fun k => (List.range' 0 D).flatMap fun d => ((List.range T).filter (P k d)).map fun t => (k, d, t)
theorem len_days (P : κ → Nat → Nat → Bool) (T : Nat) (hT : T ≤ 400) (k : κ) : ∀ (n b : Nat), ((List.range' b n).flatMap fun d => ((List.range T).filter (P k d)).map fun t => (k, d, t)).length = sumFrom (fun d => areaR (rowS (P k d) T)) b n
  | 0, b => rfl
  | n + 1, b => by
    rw [List.range'_succ, List.flatMap_cons, List.length_append, len_days P T hT k n (b + 1), List.length_map, ← (rowS_ok (P k b) T hT).2.2.2]
    rfl
theorem areaB_pts (P : κ → Nat → Nat → Bool) {D T : Nat} (hT : T ≤ 400) : ∀ keys : List κ, areaB (tidyB P D T keys) = (ptsOf P D T keys).length
  | [] => rfl
  | k :: ks => by
    have e1 : tidyB P D T (k :: ks) = boxesK k (stripsS (fun d => rowS (P k d) T) D) ++ tidyB P D T ks := rfl
    have e2 : ptsOf P D T (k :: ks) = ((List.range' 0 D).flatMap fun d => ((List.range T).filter (P k d)).map fun t => (k, d, t)) ++ ptsOf P D T ks := rfl
    rw [e1, e2, areaB_app, List.length_append, areaB_pts P hT ks, len_days P T hT, areaB_chain k _ _ _ _ (strips_ok _ D), Nat.sub_zero]
theorem mem_pts (P : κ → Nat → Nat → Bool) (D T : Nat) (keys : List κ) (k : κ) (d t : Nat) : (k, d, t) ∈ ptsOf P D T keys ↔ k ∈ keys ∧ d < D ∧ t < T ∧ P k d t = true := by
  simp only [ptsOf, List.mem_flatMap, List.mem_map, List.mem_filter, List.mem_range, List.mem_range'_1, Prod.mk.injEq]
  constructor
  · rintro ⟨k', hk, d', hd, t', ⟨ht, p⟩, rfl, rfl, rfl⟩
    exact ⟨hk, by omega, ht, p⟩
  · rintro ⟨hk, hd, ht, p⟩
    exact ⟨k, hk, d, by omega, t, ⟨ht, p⟩, rfl, rfl, rfl⟩
theorem nodup_days (P : κ → Nat → Nat → Bool) (T : Nat) (k : κ) : ∀ (n b : Nat), ((List.range' b n).flatMap fun d => ((List.range T).filter (P k d)).map fun t => (k, d, t)).Nodup
  | 0, b => List.nodup_nil
  | n + 1, b => by
    rw [List.range'_succ, List.flatMap_cons, List.nodup_append]
    refine ⟨?_, nodup_days P T k n (b + 1), ?_⟩
    · have : ((List.range T).filter (P k b)).Nodup := List.Pairwise.filter _ List.nodup_range
      refine List.Pairwise.map _ (fun x y h => ?_) this
      intro z
      exact h (Prod.mk.inj (Prod.mk.inj z).2).2
    · intro x hx y hy z
      subst z
      obtain ⟨t, _, rfl⟩ := List.mem_map.mp hx
      obtain ⟨d', hd, hy⟩ := List.mem_flatMap.mp hy
      obtain ⟨t', _, e⟩ := List.mem_map.mp hy
      have e1 : d' = b := (Prod.mk.inj (Prod.mk.inj e).2).1
      have := (List.mem_range'_1.mp hd).1
      omega
theorem nodup_pts (P : κ → Nat → Nat → Bool) (D T : Nat) : ∀ keys : List κ, keys.Nodup → (ptsOf P D T keys).Nodup
  | [], _ => List.nodup_nil
  | k :: ks, nd => by
    have e2 : ptsOf P D T (k :: ks) = ((List.range' 0 D).flatMap fun d => ((List.range T).filter (P k d)).map fun t => (k, d, t)) ++ ptsOf P D T ks := rfl
    obtain ⟨n1, n2⟩ := List.nodup_cons.mp nd
    rw [e2, List.nodup_append]
    refine ⟨nodup_days P T k D 0, nodup_pts P D T ks n2, fun x hx y hy z => ?_⟩
    subst z
    obtain ⟨d, _, hx⟩ := List.mem_flatMap.mp hx
    obtain ⟨t, _, rfl⟩ := List.mem_map.mp hx
    exact n1 ((mem_pts P D T ks k d t).mp hy).1
omit [DecidableEq κ] in
theorem len_le {α : Type} [BEq α] [LawfulBEq α] : ∀ {l m : List α}, l.Nodup → (∀ x ∈ l, x ∈ m) → l.length ≤ m.length
  | [], _, _, _ => Nat.zero_le _
  | x :: l, m, nd, h => by
    obtain ⟨n1, n2⟩ := List.nodup_cons.mp nd
    have hx := h x List.mem_cons_self
    have := len_le (m := m.erase x) n2 fun y hy => (List.mem_erase_of_ne (fun z => n1 (by rw [← z]; exact hy))).mpr (h y (List.mem_cons_of_mem _ hy))
    rw [List.length_erase_of_mem hx] at this
    have : 0 < m.length := List.length_pos_of_mem hx
    rw [List.length_cons]
    omega
omit [DecidableEq κ] in
theorem len_eq {α : Type} [BEq α] [LawfulBEq α] {l m : List α} (n1 : l.Nodup) (n2 : m.Nodup) (h : ∀ x, x ∈ l ↔ x ∈ m) : l.length = m.length :=
  Nat.le_antisymm (len_le n1 fun x hx => (h x).mp hx) (len_le n2 fun x hx => (h x).mpr hx)
end
/-! ### how long, and what boxes are there -/
theorem strips_len (R : Nat → List Pr) : ∀ n, (stripsS R n).length ≤ n
  | 0 => Nat.le_refl _
  | n + 1 => by
    have ih := strips_len R n
    show (stripStep (stripsS R n) n (R n)).length ≤ n + 1
    unfold stripStep
    split
    · split
      · rw [List.length_append, List.length_dropLast]
        simp
        omega
      · rw [List.length_append]
        exact Nat.succ_le_succ ih
    · simp
theorem Chn.mem {R : Nat → List Pr} : ∀ {ss : List Strip} {b e : Nat}, Chn R b ss e → ∀ z ∈ ss, b ≤ z.1 ∧ z.1 < z.2.1 ∧ z.2.1 ≤ e ∧ R z.1 = z.2.2
  | [], _, _, _, _, hz => nomatch hz
  | y :: ss, b, e, ⟨c1, c2, c3, c4, c5⟩, z, hz => by
    rcases List.mem_cons.mp hz with rfl | hz
    · exact ⟨Nat.le_of_eq c1, c2, c5.le, c3 _ (Nat.le_refl _) c2⟩
    · have := Chn.mem c5 z hz
      exact ⟨by omega, this.2.1, this.2.2.1, this.2.2.2⟩
theorem boxesK_len {κ : Type} (k : κ) (c : Nat) : ∀ ss : List Strip, (∀ z ∈ ss, z.2.2.length ≤ c) → (boxesK k ss).length ≤ ss.length * c
  | [], _ => Nat.zero_le _
  | z :: ss, h => by
    have e : boxesK k (z :: ss) = (z.2.2.map fun y => (k, z.1, z.2.1, y.1, y.2)) ++ boxesK k ss := rfl
    have h1 := boxesK_len k c ss fun y hy => h y (List.mem_cons_of_mem _ hy)
    have h2 := h z List.mem_cons_self
    rw [e, List.length_append, List.length_map, List.length_cons, Nat.succ_mul]
    omega
theorem strips_rows {S : Nat → Nat → Bool} {D T : Nat} (hT : T ≤ 400) : ∀ z ∈ stripsS (fun d => rowS (S d) T) D, z.2.2.length ≤ 201 := fun z hz => by
  have h := (Chn.mem (strips_ok _ D) z hz).2.2.2
  rw [← h]
  exact Tidy.len (rowS_ok _ T hT).1
theorem tidyB_len {κ : Type} (P : κ → Nat → Nat → Bool) {D T : Nat} (hT : T ≤ 400) : ∀ keys : List κ, (tidyB P D T keys).length ≤ keys.length * (D * 201)
  | [] => Nat.zero_le _
  | k :: ks => by
    have e : tidyB P D T (k :: ks) = boxesK k (stripsS (fun d => rowS (P k d) T) D) ++ tidyB P D T ks := rfl
    have h1 := tidyB_len P hT ks (D := D)
    have h2 := boxesK_len k 201 _ (strips_rows (S := P k) (D := D) hT)
    have h3 := Nat.mul_le_mul_right 201 (strips_len (fun d => rowS (P k d) T) D)
    rw [e, List.length_append, List.length_cons, Nat.succ_mul]
    omega
theorem tidyB_mem {κ : Type} (P : κ → Nat → Nat → Bool) {D T : Nat} (hT : T ≤ 400) {keys : List κ} : ∀ b ∈ tidyB P D T keys, b.1 ∈ keys ∧ b.2.1 < b.2.2.1 ∧ b.2.2.1 ≤ D ∧ b.2.2.2.1 < b.2.2.2.2 ∧ b.2.2.2.2 ≤ T := fun b hb => by
  obtain ⟨k, hk, hb⟩ := List.mem_flatMap.mp hb
  obtain ⟨s, hs, hb⟩ := List.mem_flatMap.mp hb
  obtain ⟨z, hz, rfl⟩ := List.mem_map.mp hb
  obtain ⟨h1, h2, h3, h4⟩ := Chn.mem (strips_ok _ D) s hs
  have h5 := rowS_ok (P k s.1) T hT
  rw [show rowS (P k s.1) T = s.2.2 from h4] at h5
  exact ⟨hk, h2, h3, (TidyFrom.valid (b := 0) h5.1 z hz).1, h5.2.2.1 z hz⟩
end LL
namespace LL
open PySem PySem.Spec PyProof.Rows L2
/-! ### lists of boxes, in the heap -/
abbrev SBx := BoxT Str
def bxV (b : SBx) : List V := [.str b.1, .int (b.2.1 : Int), .int (b.2.2.1 : Int), .int (b.2.2.2.1 : Int), .int (b.2.2.2.2 : Int)]
inductive BxsAt (H : Hp) : List Addr → List SBx → Prop
  | nil : BxsAt H [] []
  | cons {q : Addr} {b : SBx} {qs : List Addr} {bs : List SBx} (h : H q = some (.tup (bxV b))) (t : BxsAt H qs bs) : BxsAt H (q :: qs) (b :: bs)
theorem BxsAt.len {H : Hp} {qs : List Addr} {bs : List SBx} (h : BxsAt H qs bs) : qs.length = bs.length := by
  induction h with
  | nil => rfl
  | cons h t ih => rw [List.length_cons, List.length_cons, ih]
theorem BxsAt.app {H : Hp} {qs ps : List Addr} {bs cs : List SBx} (h : BxsAt H qs bs) (g : BxsAt H ps cs) : BxsAt H (qs ++ ps) (bs ++ cs) := by
  induction h with
  | nil => exact g
  | cons h t ih => exact .cons h ih
theorem BxsAt.get {H : Hp} {qs : List Addr} {bs : List SBx} (h : BxsAt H qs bs) {i : Nat} {q : Addr} (e : qs[i]? = some q) : ∃ b, bs[i]? = some b ∧ H q = some (.tup (bxV b)) := by
  induction h generalizing i with
  | nil => cases e
  | @cons q' b qs bs h t ih =>
    cases i with
    | zero => cases e; exact ⟨_, rfl, h⟩
    | succ i => exact ih e
theorem BxsAt.put {H H' : Hp} {qs : List Addr} {bs : List SBx} (h : BxsAt H qs bs) (k : ∀ q xs, H q = some (.tup xs) → H' q = some (.tup xs)) : BxsAt H' qs bs := by
  induction h with
  | nil => exact .nil
  | cons h t ih => exact .cons (k _ _ h) ih
def BxL (H : Hp) (a : Addr) (bs : List SBx) : Prop := ∃ qs : List Addr, H a = some (.lst (qs.map V.ref)) ∧ BxsAt H qs bs
theorem BxL.keep {a : Addr} {H H' : Hp} {bs : List SBx} (k : Keep H H') (h : BxL H a bs) : BxL H' a bs := by
  obtain ⟨qs, e, p⟩ := h
  exact ⟨qs, k _ _ (fun q z => by cases z) e, p.put fun q xs e => k _ _ (fun q z => by cases z) e⟩
theorem BxL.exd {a : Addr} {H H' : Hp} {bs : List SBx} (x : Exd H H') (h : BxL H a bs) : BxL H' a bs := h.keep fun b o _ e => x b o e
theorem BxL.nw {P a : Addr} {H H' : Hp} {bs : List SBx} (x : Nw P H H') (h : BxL H a bs) : BxL H' a bs := h.keep x.keep
/-- as data -/
def bxDat (b : SBx) : PyData := .tuple [.str b.1, .int (b.2.1 : Int), .int (b.2.2.1 : Int), .int (b.2.2.2.1 : Int), .int (b.2.2.2.2 : Int)]
def bxsDat (bs : List SBx) : PyData := .list (bs.map bxDat)
theorem bxDat_dp {K : PySem.W.Frag} {H : Hp} {q : Addr} {b : SBx} (h : H q = some (.tup (bxV b))) : Dp K H (.ref q) (bxDat b) :=
  .tup (SqT.of h) (.cons (.str _) (.cons (.int _) (.cons (.int _) (.cons (.int _) (.cons (.int _) .nil)))))
theorem BxsAt.dp {K : PySem.W.Frag} {H : Hp} {qs : List Addr} {bs : List SBx} (h : BxsAt H qs bs) : DpAll K H (qs.map V.ref) (bs.map bxDat) := by
  induction h with
  | nil => exact .nil
  | cons h t ih => exact .cons (bxDat_dp h) ih
theorem BxL.dp {K : PySem.W.Frag} {H : Hp} {a : Addr} {bs : List SBx} (h : BxL H a bs) : Dp K H (.ref a) (bxsDat bs) := by
  obtain ⟨qs, e, p⟩ := h
  exact .lst (SqL.of e) p.dp
theorem intEq (a b : Nat) : PyData.eqv (.int (a : Int)) (.int (b : Int)) = decide (a = b) := by
  simp only [PyData.eqv]
  first
    | exact decide_eq_decide.mpr ⟨fun z => Int.ofNat.inj z, fun z => congrArg _ z⟩
    | (rw [Bool.eq_iff_iff]; simp)
theorem strEq (a b : Str) : PyData.eqv (.str a) (.str b) = decide (a = b) := by
  simp only [PyData.eqv]
  try (rw [Bool.eq_iff_iff]; simp)
theorem bxDat_eqv (b c : SBx) : PyData.eqv (bxDat b) (bxDat c) = decide (b = c) := by
  obtain ⟨k, x, y, z, u⟩ := b
  obtain ⟨k', x', y', z', u'⟩ := c
  simp only [bxDat, PyData.eqv, PyData.eqvAll]
  rw [Bool.eq_iff_iff]
  simp [and_assoc]
  intro _
  omega
theorem bxDats_eqv : ∀ bs cs : List SBx, PyData.eqvAll (bs.map bxDat) (cs.map bxDat) = decide (bs = cs)
  | [], [] => by simp [PyData.eqvAll]
  | [], _ :: _ => by simp [PyData.eqvAll]
  | _ :: _, [] => by simp [PyData.eqvAll]
  | b :: bs, c :: cs => by
    simp only [List.map_cons, PyData.eqvAll, bxDat_eqv, bxDats_eqv bs cs]
    rw [Bool.eq_iff_iff]
    simp
theorem bxsDat_eqv (bs cs : List SBx) : PyData.eqv (bxsDat bs) (bxsDat cs) = decide (bs = cs) := by
  simp only [bxsDat, PyData.eqv]
  exact bxDats_eqv bs cs
theorem bxDats_lay {bs : List SBx} (h : ∀ b ∈ bs, PyData.strOk b.1 = true) : PyData.canLayAll0 (bs.map bxDat) = true := by
  induction bs with
  | nil => simp [PyData.canLayAll0]
  | cons b bs ih =>
    simp only [List.map_cons, PyData.canLayAll0, bxDat, PyData.canLay0, h b List.mem_cons_self, ih fun c hc => h c (List.mem_cons_of_mem _ hc), Bool.and_self]
theorem bxDats_depth (bs : List SBx) : PyData.depthAll (bs.map bxDat) ≤ 1 := by
  induction bs with
  | nil => simp [PyData.depthAll]
  | cons b bs ih =>
    simp only [List.map_cons, PyData.depthAll, bxDat, PyData.depth]
    first
      | omega
      | (simp; omega)
theorem bxDat_shaped {b : SBx} (h : PyData.strOk b.1 = true) : SeqAt.shaped (bxDat b) = true := by
  simp only [SeqAt.shaped, bxDat, PyData.canLay0, PyData.canLayAll0, PyData.depth, PyData.depthAll, h, Bool.and_self, Bool.true_and]
  decide
theorem bxsDat_shaped {bs : List SBx} (h : ∀ b ∈ bs, PyData.strOk b.1 = true) : SeqAt.shaped (bxsDat bs) = true := by
  have d := bxDats_depth bs
  simp only [SeqAt.shaped, bxsDat, PyData.canLay0, PyData.depth, bxDats_lay h, Bool.true_and]
  exact decide_eq_true (by omega)
end LL
namespace LL
open PySem PySem.Spec PyProof.Rows L2
theorem str_declines {b : Str} {u : Tok} {l : Addr} : Meets (Builtin.«str.__eq__» { pos := [.str b u, .ref l] }) fun _ R s =>
    (∃ o es ep, s.heap.get? l = some o ∧ o.data = .dict es ep) ∧ R (.ok (.ret .notImplemented)) s := by
  rintro prog w A R s ⟨⟨o, es, ep, e, d⟩, h⟩
  unfold Builtin.«str.__eq__» Builtin.Str.strCompare
  refine wpAny_bind ?_
  unfold Builtin.Str.strSlot
  refine wpAny_bind ?_
  unfold slotArgs
  refine wpAny_ite_false (by rfl) ?_
  refine wpAny_ite_false (by rfl) (wpAny_pure ?_)
  refine wpAny_bind (wpAny_pure (wpAny_pure ?_))
  refine wpAny_bind (m := asStr? (.ref l)) ?_
  unfold asStr?
  refine wpAny_bind (wpAny_load e ?_)
  rw [d]
  refine wpAny_pure ?_
  refine wpAny_bind (wpAny_rule ?_)
  exact wpAny_pure h
theorem dict_gives {d : Addr} {x : Str} {t : Tok} : Gives (Builtin.«dict.__eq__» { pos := [.ref d, .str x t] }) (Made.val .notImplemented) := Gives.of_wp fun M A E s Q h => by
  refine wpAny_bind (m := Builtin.Dict.dictSlotArgs "__eq__" _) ?_
  unfold Builtin.Dict.dictSlotArgs
  refine wpAny_bind ?_
  unfold Builtin.Dict.notOrdered
  refine wpAny_ite_false (by decide) (wpAny_pure ?_)
  refine wpAny_bind ?_
  unfold slotArgs
  refine wpAny_ite_false (by rfl) ?_
  refine wpAny_ite_false (by rfl) (wpAny_pure ?_)
  refine wpAny_pure ?_
  refine wpAny_bind (wpAny_isInstance_val (T := "str") (b := false) rfl (by rfl) ?_)
  refine wpAny_bind (wpAny_rule ?_)
  exact wpAny_pure ⟨_, rfl, h⟩
theorem eq_str_dict {prog : Program} {w : World} {A : Around} {E : Value → Shared → Prop} {s : Shared} {Q : Value → Shared → Prop} {d : Addr} {o : Obj} {es : Array DictEntry} {ep : Nat} {x : Str} {t : Tok}
    (e : s.heap.get? d = some o) (hc : o.cls = .type "dict") (hd : o.data = .dict es ep) (hu : A.units < cLine) (h : Q (.bool false) s) : wpAny (model prog w) A (compareOp .Eq (.str x t) (.ref d)) Q E s := by
  have ta : s.TypeIs (.str x t) "str" := rfl
  have tb : s.TypeIs (.ref d) "dict" := ⟨o, e, hc⟩
  show wpAny _ A (richCompare .Eq _ _) Q E s
  unfold richCompare
  refine wpAny_holding (wpAny_bind (wpAny_cRoomFor_or (.inr hu) ?_))
  rw [Shared.TypeIs.oneThing_none ta]
  refine wpAny_bind (wpAny_typeOf ta (wpAny_bind (wpAny_typeOf tb ?_)))
  have ne : (Value.type "str" != Value.type "dict") = true := by decide
  rw [if_pos ne]
  have sub : isSubtype (Value.type "dict") (Value.type "str") = pure false := rfl
  rw [sub]
  refine wpAny_bind (wpAny_pure ?_)
  simp only [Bool.false_eq_true, if_false]
  refine wpAny_bind ?_
  refine wpAny_tryCompare_declines ta F.slot_str_eq (call_meets F.slot_str_eq ta F.entry_str_eq (F.args_str_eq_2 _ _) str_declines ⟨⟨o, es, ep, e, hd⟩, rfl, ?_⟩)
  simp only [Bool.not_false, if_true]
  refine wpAny_bind ?_
  refine wpAny_tryCompare_declines tb F.slot_dict_eq_refl (call_gives F.slot_dict_eq_refl tb F.entry_dict_eq (F.args_dict_eq_2 _ _) dict_gives ⟨rfl, ?_⟩)
  refine wpAny_bind (wpAny_rule ?_)
  exact wpAny_bind (wpAny_pure (wpAny_pure h))
/-- a thing that texts are compared with: for each text whether it is equal -/
inductive KeyT (K : PySem.W.Frag) (H : Hp) : V → (Str → Bool) → Prop
  | dat {y : V} {f : Str → Bool} {e : PyData} (d : Dp K H y e) (sh : SeqAt.shaped e = true) (h : ∀ k, PyData.eqv (.str k) e = f k) : KeyT K H y f
  | dic {a : Addr} {kvs : List (Key × V)} (h : H a = some (.dK kvs)) : KeyT K H (.ref a) (fun _ => false)
theorem strShaped {k : Str} (h : PyData.strOk k = true) : SeqAt.shaped (.str k) = true := by
  simp only [SeqAt.shaped, PyData.canLay0, PyData.depth, h, Bool.true_and]
  exact decide_eq_true (Nat.zero_le _)
def rEqT (K : PySem.W.Frag) : R2 := fun x y H Q => ∃ k f, x = .str k ∧ PyData.strOk k = true ∧ KeyT K H y f ∧ Q (.bl (f k)) H
theorem op_eqT {X : Cx} (hu : X.A.units + 64 < cLine) : OpR X (compareOp .Eq) (rEqT X.K) := by
  intro pins s σ H x y v u Q I rv ru ⟨k, f, e, hk, kt, q⟩
  subst e
  cases kt with
  | dat d sh h => exact op_eqD hu pins s σ H _ _ v u Q I rv ru ⟨_, _, .str k, d, strShaped hk, sh, by rw [h]; exact q⟩
  | dic h =>
    obtain ⟨z, lo, vs, rel, dd⟩ := dk_rd I.hok (.inl h)
    obtain ⟨o, es, ep, e, ex, d, _⟩ := dd
    obtain ⟨t, rfl⟩ := rv
    obtain rfl : u = Value.ref _ := ru
    exact eq_str_dict e ex.1 d (by omega) ⟨.bl false, H, I, rfl, q⟩
theorem KeyT.text {K : PySem.W.Frag} {H : Hp} {k : Str} (h : PyData.strOk k = true) : KeyT K H (.str k) (fun z => decide (z = k)) :=
  .dat (.str k) (strShaped h) fun z => strEq z k
theorem op_eqTK {X : Cx} {K : PySem.W.Frag} (h : X.K = K) (hu : X.A.units + 64 < cLine) : OpR X (compareOp .Eq) (rEqT K) := by
  subst h
  exact op_eqT hu
theorem KeyT.keep {K : PySem.W.Frag} {H H' : Hp} {y : V} {f : Str → Bool} (k : Keep H H') (dk : ∀ {y e}, Dp K H y e → Dp K H' y e) (h : KeyT K H y f) : KeyT K H' y f := by
  cases h with
  | dat d sh h => exact .dat (dk d) sh h
  | dic h => exact .dic (k _ _ (fun q z => by cases z) h)
theorem op_eqDK {X : Cx} {K : PySem.W.Frag} (h : X.K = K) (hu : X.A.units + 64 < cLine) : OpR X (compareOp .Eq) (rEqD K) := by
  subst h
  exact op_eqD hu
theorem op_neDK {X : Cx} {K : PySem.W.Frag} (h : X.K = K) (hu : X.A.units + 64 < cLine) : OpR X (compareOp .NotEq) (rNeD K) := by
  subst h
  exact op_neD hu
theorem dict_gives_ne {d : Addr} {x : Int} {t : Tok} : Gives (Builtin.«dict.__ne__» { pos := [.ref d, .int x t] }) (Made.val .notImplemented) := Gives.of_wp fun M A E s Q h => by
  refine wpAny_bind (m := Builtin.Dict.dictSlotArgs "__ne__" _) ?_
  unfold Builtin.Dict.dictSlotArgs
  refine wpAny_bind ?_
  unfold Builtin.Dict.notOrdered
  refine wpAny_ite_false (by decide) (wpAny_pure ?_)
  refine wpAny_bind ?_
  unfold slotArgs
  refine wpAny_ite_false (by rfl) ?_
  refine wpAny_ite_false (by rfl) (wpAny_pure ?_)
  refine wpAny_pure ?_
  refine wpAny_bind (wpAny_isInstance_val (T := "int") (b := false) rfl (by rfl) ?_)
  refine wpAny_bind (wpAny_rule ?_)
  exact wpAny_pure ⟨_, rfl, h⟩
theorem int_declines {b : Int} {u : Tok} {l : Addr} : Meets (Builtin.«int.__ne__» { pos := [.int b u, .ref l] }) fun _ R s =>
    (∃ o es ep, s.heap.get? l = some o ∧ o.data = .dict es ep) ∧ R (.ok (.ret .notImplemented)) s := by
  rintro prog w A R s ⟨⟨o, es, ep, e, d⟩, h⟩
  unfold Builtin.«int.__ne__»
  refine wpAny_bind ?_
  unfold slotArgs
  refine wpAny_ite_false (by rfl) ?_
  refine wpAny_ite_false (by rfl) (wpAny_pure ?_)
  refine wpAny_bind (m := Builtin.Int.intOfSelf (.int b u)) (wpAny_pure ?_)
  refine wpAny_bind (m := asInt? (.ref l)) ?_
  unfold asInt?
  refine wpAny_bind (wpAny_load e ?_)
  rw [d]
  refine wpAny_pure ?_
  refine wpAny_bind (wpAny_rule ?_)
  exact wpAny_pure h
theorem ne_dict_int {prog : Program} {w : World} {A : Around} {E : Value → Shared → Prop} {s : Shared} {Q : Value → Shared → Prop} {d : Addr} {o : Obj} {es : Array DictEntry} {ep : Nat} {x : Int} {t : Tok}
    (e : s.heap.get? d = some o) (hc : o.cls = .type "dict") (hd : o.data = .dict es ep) (hu : A.units < cLine) (h : Q (.bool true) s) : wpAny (model prog w) A (compareOp .NotEq (.ref d) (.int x t)) Q E s := by
  have ta : s.TypeIs (.int x t) "int" := rfl
  have tb : s.TypeIs (.ref d) "dict" := ⟨o, e, hc⟩
  show wpAny _ A (richCompare .NotEq _ _) Q E s
  unfold richCompare
  refine wpAny_holding (wpAny_bind (wpAny_cRoomFor_or (.inr hu) ?_))
  rw [Shared.TypeIs.oneThing_none tb]
  refine wpAny_bind (wpAny_typeOf tb (wpAny_bind (wpAny_typeOf ta ?_)))
  have ne : (Value.type "dict" != Value.type "int") = true := by decide
  rw [if_pos ne]
  have sub : isSubtype (Value.type "int") (Value.type "dict") = pure false := rfl
  rw [sub]
  refine wpAny_bind (wpAny_pure ?_)
  simp only [Bool.false_eq_true, if_false]
  refine wpAny_bind ?_
  refine wpAny_tryCompare_declines tb F.slot_dict_ne (call_gives F.slot_dict_ne tb F.entry_dict_ne (F.args_dict_ne_2 _ _) dict_gives_ne ⟨rfl, ?_⟩)
  simp only [Bool.not_false, if_true]
  refine wpAny_bind ?_
  refine wpAny_tryCompare_declines ta F.slot_int_ne_refl (call_meets F.slot_int_ne_refl ta F.entry_int_ne (F.args_int_ne_2 _ _) int_declines ⟨⟨o, es, ep, e, hd⟩, rfl, ?_⟩)
  refine wpAny_bind (wpAny_rule ?_)
  exact wpAny_bind (wpAny_pure (wpAny_pure h))
/-- a thing, and whether it is another one than a number -/
inductive NeN (K : PySem.W.Frag) (H : Hp) (n : Int) : V → Bool → Prop
  | dat {y : V} {e : PyData} (d : Dp K H y e) (sh : SeqAt.shaped e = true) : NeN K H n y (!PyData.eqv e (.int n))
  | dic {a : Addr} {kvs : List (Key × V)} (h : H a = some (.dK kvs)) : NeN K H n (.ref a) true
def rNeN (K : PySem.W.Frag) : R2 := fun x y H Q => ∃ n b, y = .int n ∧ SeqAt.shaped (.int n) = true ∧ NeN K H n x b ∧ Q (.bl b) H
theorem op_neN {X : Cx} (hu : X.A.units + 64 < cLine) : OpR X (compareOp .NotEq) (rNeN X.K) := by
  intro pins s σ H x y v u Q I rv ru ⟨n, b, e, sn, kt, q⟩
  subst e
  cases kt with
  | dat d sh => exact op_neD hu pins s σ H _ _ v u Q I rv ru ⟨_, _, d, .int n, sh, sn, q⟩
  | dic h =>
    obtain ⟨z, lo, vs, rel, dd⟩ := dk_rd I.hok (.inl h)
    obtain ⟨o, es, ep, e, ex, d, _⟩ := dd
    obtain ⟨t, rfl⟩ := ru
    obtain rfl : v = Value.ref _ := rv
    exact ne_dict_int e ex.1 d (by omega) ⟨.bl true, H, I, rfl, q⟩
theorem call_list_ofK {X : Cx} {K : PySem.W.Frag} (h : X.K = K) : CallR X (.type "list") (fun xs H Q => ∃ p ys, xs = [V.ref p] ∧ (SqL K H p ys ∨ SqT K H p ys) ∧ ∀ l, H l = none → Q (V.ref l) (upd H l (.lst ys))) := by
  subst h
  exact call_list_of
end LL
namespace LL
open PySem PySem.Spec PyProof.Rows L2
/-! ### data that may hold {}: repr -/
mutual
inductive Dz (H : Hp) : V → PyData → Prop
  | non : Dz H .non .none
  | bl (b : Bool) : Dz H (.bl b) (.bool b)
  | int (i : Int) : Dz H (.int i) (.int i)
  | str (x : Str) : Dz H (.str x) (.str x)
  | lst {a : Addr} {xs : List V} {ds : List PyData} : H a = some (.lst xs) → DzAll H xs ds → Dz H (.ref a) (.list ds)
  | tup {a : Addr} {xs : List V} {ds : List PyData} : H a = some (.tup xs) → DzAll H xs ds → Dz H (.ref a) (.tuple ds)
  | dct {a : Addr} : H a = some (.dK []) → Dz H (.ref a) (.dict [])
  | dct1 {a : Addr} : H a = some (.dK [(.inr "a", .int 1)]) → Dz H (.ref a) (.dict [(.str "a", .int 1)])
inductive DzAll (H : Hp) : List V → List PyData → Prop
  | nil : DzAll H [] []
  | cons {v : V} {vs : List V} {d : PyData} {ds : List PyData} : Dz H v d → DzAll H vs ds → DzAll H (v :: vs) (d :: ds)
end
mutual
theorem Dz.keep {H H' : Hp} (k : Keep H H') : ∀ (d : PyData) (v : V), Dz H v d → Dz H' v d
  | _, _, .non => .non
  | _, _, .bl b => .bl b
  | _, _, .int i => .int i
  | _, _, .str x => .str x
  | _, _, .lst h t => .lst (k _ _ (fun q z => by cases z) h) (DzAll.keep k _ _ t)
  | _, _, .tup h t => .tup (k _ _ (fun q z => by cases z) h) (DzAll.keep k _ _ t)
  | _, _, .dct h => .dct (k _ _ (fun q z => by cases z) h)
  | _, _, .dct1 h => .dct1 (k _ _ (fun q z => by cases z) h)
theorem DzAll.keep {H H' : Hp} (k : Keep H H') : ∀ (ds : List PyData) (vs : List V), DzAll H vs ds → DzAll H' vs ds
  | _, _, .nil => .nil
  | _, _, .cons h t => .cons (Dz.keep k _ _ h) (DzAll.keep k _ _ t)
end
/-- the entries of a dict with the one key a -/
theorem one_entry {P : Program} {w : World} {es : List DictEntry} {vs : List (Key × Value)} (rel : KV [((.inr "a" : Key), V.int 1)] vs) (pr : PySem.Pairs (mixKind P w) es vs) : ∃ e t u, es = [e] ∧ e.key = .str "a" t ∧ e.val = .int 1 u := by
  cases rel with
  | @cons _ kv _ kvs h r =>
    cases r
    cases pr with
    | @cons e _ es _ h1 h2 pr =>
      cases pr
      obtain ⟨hk, hv⟩ := h
      have hk : (.inr "a" : Key) = kv.1 := hk
      rw [← hk] at h1
      have h1 : Value.isStrOf "a" e.key = true := h1
      obtain ⟨t, ht⟩ : ∃ t, e.key = .str "a" t := by
        cases q : e.key with
        | str x t =>
          rw [q] at h1
          have h1 : (x == "a") = true := by simpa [Value.isStrOf] using h1
          exact ⟨t, by rw [eq_of_beq h1]⟩
        | _ => rw [q] at h1; cases h1
      obtain ⟨u, hu⟩ := hv
      exact ⟨e, t, u, rfl, ht, by rw [h2]; exact hu⟩
section
variable {X : Cx} {pins : List (Addr × Obj)} {σ : L2.St} {H : Hp} {s : Shared}
mutual
theorem Dz.rep (I : Inv X pins σ H s) : ∀ (d : PyData) (v : V) (u : Value), Dz H v d → RelV v u → d.showable = true → d.shown.length ≤ sizeLine →
    ∃ as bs, Reads s.heap u d as ∧ ReadAtMost s.heap d.depth bs ∧ ReprK X.prog X.w bs s.heap d.depth u d.shown
  | .none, _, _, h, r, _, _ => by
    cases h
    cases r
    refine ⟨_, [], Reads.none, fun b hb => (nomatch hb), ?_⟩
    simp only [PyData.shown]
    exact .of_is ReprIs.none _ _ _
  | .bool b, _, _, h, r, _, _ => by
    cases h
    cases r
    refine ⟨_, [], Reads.bool b, fun b hb => (nomatch hb), ?_⟩
    simp only [PyData.shown]
    exact .of_is (ReprIs.bool b) _ _ _
  | .int i, _, _, h, r, sh, _ => by
    cases h
    obtain ⟨t, rfl⟩ := r
    refine ⟨_, [], Reads.int i t, fun b hb => (nomatch hb), ?_⟩
    simp only [PyData.shown]
    exact .of_is (ReprIs.int t (by simpa [PyData.showable] using sh)) _ _ _
  | .str x, _, _, h, r, _, z => by
    cases h
    obtain ⟨t, rfl⟩ := r
    refine ⟨_, [], Reads.str x t, fun b hb => (nomatch hb), ?_⟩
    simp only [PyData.shown]
    exact .of_is (ReprIs.str x t (by simpa only [PyData.shown] using z)) _ _ _
  | .list ds, _, _, h, r, sh, z => by
    cases h with
    | @lst a xs _ hs ha =>
      cases r
      obtain ⟨its, rv, ⟨o, n, ho, hc, _, hd⟩, _⟩ := I.list (SqL.of hs)
      have z2 : (listText (PyData.shownAll ds)).length ≤ sizeLine := by simpa only [PyData.shown] using z
      obtain ⟨as, bs, hr, most, hk⟩ := DzAll.rep I ds _ its ha rv (by simpa only [PyData.showable] using sh) fun t ht => Nat.le_trans (listText_mem_le ht) z2
      have rr := Reads.list ho hc hd hr
      have no := not_mem_of_deeper rr (by simp only [PyData.depth]; omega) most
      refine ⟨_, _ :: bs, rr, ReadAtMost.cons rr (Nat.le_refl _) (most.mono (by simp only [PyData.depth]; omega)), ?_⟩
      simp only [PyData.depth, PyData.shown]
      cases its with
      | nil =>
        have e0 : PyData.shownAll ds = [] := List.length_eq_zero_iff.mp hk.length_eq
        rw [e0, listText_nil]
        have := ReprK.listEmpty (prog := X.prog) (w := X.w) (as := a :: bs) (d := PyData.depthAll ds + 1) ho hc hd
        exact this
      | cons x l => exact ReprK.list ho hc hd no (by simpa using hk.length_eq) fun i y e => hk.item i y (by simpa using e)
  | .tuple ds, _, _, h, r, sh, z => by
    cases h with
    | tup hs ha =>
      cases r
      obtain ⟨its, rv, ⟨o, ho, hc, n, hd⟩, _⟩ := I.tuple (SqT.of hs)
      have z2 : (tupleText (PyData.shownAll ds)).length ≤ sizeLine := by simpa only [PyData.shown] using z
      obtain ⟨as, bs, hr, most, hk⟩ := DzAll.rep I ds _ its ha rv (by simpa only [PyData.showable] using sh) fun t ht => Nat.le_trans (tupleText_mem_le ht) z2
      have rr := Reads.tuple ho hc hd hr
      have no := not_mem_of_deeper rr (by simp only [PyData.depth]; omega) most
      refine ⟨_, _ :: bs, rr, ReadAtMost.cons rr (Nat.le_refl _) (most.mono (by simp only [PyData.depth]; omega)), ?_⟩
      simp only [PyData.depth, PyData.shown]
      exact ReprK.tuple ho hc hd no hk
  | .dict kvs, _, _, h, r, _, _ => by
    cases h with
    | dct hs =>
      cases r
      obtain ⟨z, lo, vs, rel, o, es, ep, h1, h2, h3, h4, h5, h6⟩ := dk_rd I.hok (.inl hs)
      cases rel
      have e0 : es.toList = [] := by
        cases q : es.toList with
        | nil => rfl
        | cons x xs =>
          rw [q] at h5
          cases h5
      have rr : Reads s.heap _ (.dict []) _ := Reads.dict (as := []) (bs := []) (kvs := []) h1 h2.1 h3 (by rw [e0]; exact ReadsAll.nil) (by rw [e0]; exact ReadsAll.nil)
      refine ⟨_, [_], rr, ReadAtMost.cons rr (Nat.le_refl _) (fun b hb => (nomatch hb)), ?_⟩
      have := ReprK.dict (prog := X.prog) (w := X.w) (as := []) (d := 0) (ps := []) h1 h2.1 h3 lo List.not_mem_nil (by rw [e0]; exact ReprEntriesK.nil)
      simpa only [PyData.depth, PyData.depthKv, PyData.shown, PyData.shownKv] using this
    | dct1 hs =>
      cases r
      obtain ⟨z, lo, vs, rel, o, es, ep, h1, h2, h3, h4, h5, h6⟩ := dk_rd I.hok (.inl hs)
      obtain ⟨⟨hh, ek, ev⟩, t, u, e0, he1, he2⟩ := one_entry rel h5
      have he1 : ek = .str "a" t := he1
      have he2 : ev = .int 1 u := he2
      subst he1 he2
      have rr : Reads s.heap _ (.dict [(.str "a", .int 1)]) _ := Reads.dict (kvs := [(.str "a", .int 1)]) h1 h2.1 h3 (by rw [e0]; exact ReadsAll.cons (Reads.str _ _) ReadsAll.nil) (by rw [e0]; exact ReadsAll.cons (Reads.int _ _) ReadsAll.nil)
      refine ⟨_, [_], rr, ReadAtMost.cons rr (Nat.le_refl _) (fun b hb => (nomatch hb)), ?_⟩
      have := ReprK.dict (prog := X.prog) (w := X.w) (as := []) (d := 0) h1 h2.1 h3 lo List.not_mem_nil (by rw [e0]; exact ReprEntriesK.cons (.of_is (ReprIs.str "a" t (by rw [show (reprText (Str.ofString "a")).length = 3 from by decide +kernel]; show 3 ≤ sizeLine; decide)) _ _ _) (.of_is (ReprIs.int (a := 1) u (by decide +kernel)) _ _ _) ReprEntriesK.nil)
      simpa only [PyData.depth, PyData.depthKv, PyData.shown, PyData.shownKv, Nat.max_self] using this
theorem DzAll.rep (I : Inv X pins σ H s) : ∀ (ds : List PyData) (vs : List V) (us : List Value), DzAll H vs ds → Vals vs us → PyData.showableAll ds = true → (∀ t ∈ PyData.shownAll ds, t.length ≤ sizeLine) →
    ∃ as bs, ReadsAll s.heap us ds as ∧ ReadAtMost s.heap (PyData.depthAll ds) bs ∧ ReprAllK X.prog X.w bs s.heap (PyData.depthAll ds) us (PyData.shownAll ds)
  | [], _, _, h, r, _, _ => by
    cases h
    cases r
    refine ⟨_, [], ReadsAll.nil, fun b hb => (nomatch hb), ?_⟩
    simp only [PyData.shownAll]
    exact .nil
  | d :: ds, _, _, h, r, sh, z => by
    cases h with
    | cons h1 h2 =>
      cases r with
      | cons r1 r2 =>
        simp only [PyData.showableAll, Bool.and_eq_true] at sh
        simp only [PyData.shownAll, List.mem_cons] at z
        obtain ⟨as, b1, q1, m1, k1⟩ := Dz.rep I d _ _ h1 r1 sh.1 (z _ (.inl rfl))
        obtain ⟨bs, b2, q2, m2, k2⟩ := DzAll.rep I ds _ _ h2 r2 sh.2 fun t ht => z t (.inr ht)
        refine ⟨_, b1 ++ b2, ReadsAll.cons q1 q2, ?_, ?_⟩
        · simp only [PyData.depthAll]
          exact (m1.mono (by omega)).append (m2.mono (by omega))
        · simp only [PyData.depthAll, PyData.shownAll]
          exact .cons ((k1.more fun b hb => List.mem_append_left _ hb).level_le (by omega)) (k2.more_le (fun b hb => List.mem_append_right _ hb) (by omega))
end
end
/-- what repr asks of such data -/
structure Sz (d : PyData) (k W : Nat) : Prop where
  sh : d.showable = true
  lv : d.leavesShort 60 = true
  dep : d.depth ≤ k
  wt : d.weight ≤ W
structure SzAll (ds : List PyData) (k W : Nat) : Prop where
  sh : PyData.showableAll ds = true
  lv : PyData.leavesShortAll 60 ds = true
  dep : PyData.depthAll ds ≤ k
  wt : PyData.weightAll ds ≤ W
theorem SzAll.cons {d : PyData} {ds : List PyData} {k l W U : Nat} (h : Sz d k W) (t : SzAll ds l U) : SzAll (d :: ds) (max k l) (W + 1 + U) := by
  refine ⟨?_, ?_, ?_, ?_⟩
  · simp only [PyData.showableAll, h.sh, t.sh, Bool.and_self]
  · simp only [PyData.leavesShortAll, h.lv, t.lv, Bool.and_self]
  · simp only [PyData.depthAll]
    have := h.dep
    have := t.dep
    omega
  · simp only [PyData.weightAll]
    have := h.wt
    have := t.wt
    omega
theorem szAll_nil : SzAll [] 0 0 := ⟨rfl, rfl, Nat.le_refl _, Nat.le_refl _⟩
theorem SzAll.list {ds : List PyData} {k W : Nat} (t : SzAll ds k W) : Sz (.list ds) (k + 1) W :=
  ⟨by simp only [PyData.showable]; exact t.sh, by simp only [PyData.leavesShort]; exact t.lv, by simp only [PyData.depth]; have := t.dep; omega, by simp only [PyData.weight]; exact t.wt⟩
theorem SzAll.tuple {ds : List PyData} {k W : Nat} (t : SzAll ds k W) : Sz (.tuple ds) (k + 1) W :=
  ⟨by simp only [PyData.showable]; exact t.sh, by simp only [PyData.leavesShort]; exact t.lv, by simp only [PyData.depth]; have := t.dep; omega, by simp only [PyData.weight]; exact t.wt⟩
theorem Sz.mono {d : PyData} {k l W U : Nat} (h : Sz d k W) (a : k ≤ l) (b : W ≤ U) : Sz d l U := ⟨h.sh, h.lv, Nat.le_trans h.dep a, Nat.le_trans h.wt b⟩
theorem SzAll.mono {d : List PyData} {k l W U : Nat} (h : SzAll d k W) (a : k ≤ l) (b : W ≤ U) : SzAll d l U := ⟨h.sh, h.lv, Nat.le_trans h.dep a, Nat.le_trans h.wt b⟩
theorem szAll_of {ds : List PyData} {k W : Nat} (h : ∀ d ∈ ds, Sz d k W) : SzAll ds k ((W + 1) * ds.length) := by
  induction ds with
  | nil => exact szAll_nil.mono (Nat.zero_le _) (Nat.zero_le _)
  | cons d ds ih =>
    refine (SzAll.cons (h d List.mem_cons_self) (ih fun y hy => h y (List.mem_cons_of_mem _ hy))).mono (by omega) ?_
    rw [List.length_cons, Nat.mul_succ]
    omega
/-- repr of such data -/
theorem call_reprZ {X : Cx} (guard : X.A.guards = some []) {k : Nat} (room : Room k X.A) : CallR X (.builtin "repr") (fun xs H Q => ∃ v d, xs = [v] ∧ Dz H v d ∧ isDisplay d = true ∧ Sz d 60 200000 ∧ Q (.str d.shown) H) := by
  intro pins s σ H xs us Q I r ⟨v, d, e, dp, disp, sz, q⟩
  subst e
  obtain ⟨u, rfl, r1⟩ := vals1 r
  have dep := sz.dep
  have len : d.shown.length ≤ sizeLine := by
    have h1 := PyData.shown_le 60 (by decide) d sz.lv
    have h2 := sz.wt
    have h3 := PySem.sizeLine_eq
    omega
  have run := room.un
  have fin : ∀ h' u tk, (∀ b o, s.heap.get? b = some o → h'.get? b = some o) → ∃ v' H', Inv X pins σ H' { s with heap := h', toks := tk } ∧ RelV v' (.str d.shown u) ∧ Q v' H' :=
    fun h' u tk keep => ⟨.str _, H, I.kept keep, ⟨_, rfl⟩, q⟩
  cases dp with
  | @lst a xs ds hs ha =>
    cases r1
    obtain ⟨its, rv, ⟨o, n, ho, hc, _, hd⟩, _⟩ := I.list (SqL.of hs)
    have z2 : (listText (PyData.shownAll ds)).length ≤ sizeLine := by simpa only [PyData.shown] using len
    obtain ⟨as, bs, hr, most, hk⟩ := DzAll.rep I ds _ its ha rv (by simpa only [PyData.showable] using sz.sh) fun t ht => Nat.le_trans (listText_mem_le ht) z2
    have rr := Reads.list ho hc hd hr
    have no := not_mem_of_deeper rr (by simp only [PyData.depth]; omega) most
    simp only [PyData.depth] at dep
    simp only [PyData.shown] at fin
    refine call_repr_slot (by omega) ⟨o, ho, hc⟩ F.slot_list_repr.toG ?_
    cases its with
    | nil =>
      have e0 : PyData.shownAll ds = [] := List.length_eq_zero_iff.mp hk.length_eq
      rw [e0, listText_nil] at fin
      exact call_list_repr_empty ⟨o, ho, hc⟩ ho hd ⟨_, _, rfl, fin s.heap _ _ fun _ _ e => e⟩
    | cons x l => exact call_list_reprK ho hc hd no (by simpa using hk.length_eq) (fun i y e => hk.item i y (by simpa using e)) guard (fun b _ => Clear.nil b) (by show X.A.units + 1 + (PyData.depthAll ds + 1) < cLine; omega) (fun _ _ e => e) (fun h' u tk k => ⟨_, _, rfl, fin h' u tk k⟩) z2
  | @tup a xs ds hs ha =>
    cases r1
    obtain ⟨its, rv, ⟨o, ho, hc, n, hd⟩, _⟩ := I.tuple (SqT.of hs)
    have z2 : (tupleText (PyData.shownAll ds)).length ≤ sizeLine := by simpa only [PyData.shown] using len
    obtain ⟨as, bs, hr, most, hk⟩ := DzAll.rep I ds _ its ha rv (by simpa only [PyData.showable] using sz.sh) fun t ht => Nat.le_trans (tupleText_mem_le ht) z2
    have rr := Reads.tuple ho hc hd hr
    have no := not_mem_of_deeper rr (by simp only [PyData.depth]; omega) most
    simp only [PyData.depth] at dep
    simp only [PyData.shown] at fin
    refine call_repr_slot (by omega) ⟨o, ho, hc⟩ F.slot_tuple_repr ?_
    exact call_tuple_reprK ho hc hd no hk guard (fun b _ => Clear.nil b) (by show X.A.units + 1 + (PyData.depthAll ds + 1) < cLine; omega) (fun _ _ e => e) (fun h' u tk k => ⟨_, _, rfl, fin h' u tk k⟩) z2
  | _ => cases disp
/-! ### such data compared: thing == text, list != [] -/
theorem eq_dict_str {prog : Program} {w : World} {A : Around} {E : Value → Shared → Prop} {s : Shared} {Q : Value → Shared → Prop} {d : Addr} {o : Obj} {es : Array DictEntry} {ep : Nat} {x : Str} {t : Tok}
    (e : s.heap.get? d = some o) (hc : o.cls = .type "dict") (hd : o.data = .dict es ep) (hu : A.units < cLine) (h : Q (.bool false) s) : wpAny (model prog w) A (compareOp .Eq (.ref d) (.str x t)) Q E s := by
  have ta : s.TypeIs (.str x t) "str" := rfl
  have tb : s.TypeIs (.ref d) "dict" := ⟨o, e, hc⟩
  show wpAny _ A (richCompare .Eq _ _) Q E s
  unfold richCompare
  refine wpAny_holding (wpAny_bind (wpAny_cRoomFor_or (.inr hu) ?_))
  rw [Shared.TypeIs.oneThing_none tb]
  refine wpAny_bind (wpAny_typeOf tb (wpAny_bind (wpAny_typeOf ta ?_)))
  have ne : (Value.type "dict" != Value.type "str") = true := by decide
  rw [if_pos ne]
  have sub : isSubtype (Value.type "str") (Value.type "dict") = pure false := rfl
  rw [sub]
  refine wpAny_bind (wpAny_pure ?_)
  simp only [Bool.false_eq_true, if_false]
  refine wpAny_bind ?_
  refine wpAny_tryCompare_declines tb F.slot_dict_eq (call_gives F.slot_dict_eq tb F.entry_dict_eq (F.args_dict_eq_2 _ _) dict_gives ⟨rfl, ?_⟩)
  simp only [Bool.not_false, if_true]
  refine wpAny_bind ?_
  refine wpAny_tryCompare_declines ta F.slot_str_eq_refl (call_meets F.slot_str_eq_refl ta F.entry_str_eq (F.args_str_eq_2 _ _) str_declines ⟨⟨o, es, ep, e, hd⟩, rfl, ?_⟩)
  refine wpAny_bind (wpAny_rule ?_)
  exact wpAny_bind (wpAny_pure (wpAny_pure h))
/-- a thing, and whether it is this text -/
inductive EqS (K : PySem.W.Frag) (H : Hp) (k : Str) : V → Bool → Prop
  | dat {y : V} {e : PyData} (d : Dp K H y e) (sh : SeqAt.shaped e = true) : EqS K H k y (PyData.eqv e (.str k))
  | dic {a : Addr} {kvs : List (Key × V)} (h : H a = some (.dK kvs)) : EqS K H k (.ref a) false
def rEqS (K : PySem.W.Frag) : R2 := fun x y H Q => ∃ k b, y = .str k ∧ PyData.strOk k = true ∧ EqS K H k x b ∧ Q (.bl b) H
theorem op_eqS {X : Cx} (hu : X.A.units + 64 < cLine) : OpR X (compareOp .Eq) (rEqS X.K) := by
  intro pins s σ H x y v u Q I rv ru ⟨k, b, e, sk, kt, q⟩
  subst e
  cases kt with
  | dat d sh => exact op_eqD hu pins s σ H _ _ v u Q I rv ru ⟨_, _, d, .str k, sh, strShaped sk, q⟩
  | dic h =>
    obtain ⟨z, lo, vs, rel, dd⟩ := dk_rd I.hok (.inl h)
    obtain ⟨o, es, ep, e, ex, d, _⟩ := dd
    obtain ⟨t, rfl⟩ := ru
    obtain rfl : v = Value.ref _ := rv
    exact eq_dict_str e ex.1 d (by omega) ⟨.bl false, H, I, rfl, q⟩
def rNeE : R2 := fun x y H Q => ∃ a b xs, x = .ref a ∧ y = .ref b ∧ H a = some (.lst xs) ∧ H b = some (.lst []) ∧ Q (.bl (!xs.isEmpty)) H
theorem op_neE {X : Cx} (hu : X.A.units + 64 < cLine) : OpR X (compareOp .NotEq) rNeE := by
  intro pins s σ H x y v u Q I rv ru ⟨a, b, xs, ea, eb, ha, hb, q⟩
  subst ea eb
  obtain rfl : v = Value.ref _ := rv
  obtain rfl : u = Value.ref _ := ru
  obtain ⟨its, r1, ⟨o, n, ho, hc, _, hd⟩, _⟩ := I.list (SqL.of (K := X.K) ha)
  obtain ⟨its2, r2, ⟨o2, n2, ho2, hc2, _, hd2⟩, _⟩ := I.list (SqL.of (K := X.K) hb)
  cases r2
  cases r1 with
  | nil =>
    have := SeqAt.RcNeAt.lists (A := X.A) (s := s) (l := a) (b := b) (items := #[]) (items2 := #[]) ⟨o, ho, hc, n, hd⟩ ⟨o2, ho2, hc2, n2, hd2⟩ rfl (by omega) (e := fun _ => true) (fun j h1 _ => absurd h1 (Nat.not_lt_zero j))
    exact this _ _ _ _ ⟨.bl false, H, I, rfl, q⟩
  | cons h t =>
    exact SeqAt.RcNeAt.lists_lengths (A := X.A) (s := s) (l := a) (b := b) ⟨o, ho, hc, n, hd⟩ ⟨o2, ho2, hc2, n2, hd2⟩ (by simp) (by omega) _ _ _ _ ⟨.bl true, H, I, rfl, q⟩
/-! ### a <= b < c <= d -/
def tChain3 (r r1 r2 : R2) (ta tb tc td : TE) : TE := fun σ H Q => ta σ H fun x H1 => tb σ H1 fun y H2 => r x y H2 fun z H3 => ∃ k, z = .bl k ∧
  (if k = true then tc σ H3 fun v H4 => r1 y v H4 fun z2 H5 => ∃ k2, z2 = .bl k2 ∧ (if k2 = true then td σ H5 fun u H6 => r2 v u H6 Q else Q (.bl false) H5) else Q (.bl false) H3)
theorem pe_chain3 {X : Cx} {o o1 o2 : CmpOp} {r r1 r2 : R2} {a b c d : Expr} {ta tb tc td : TE} {pos : Pos} (h0 : OpR X (compareOp o) r) (h1 : OpR X (compareOp o1) r1) (h2 : OpR X (compareOp o2) r2) (pa : PE X a ta) (pb : PE X b tb) (pc : PE X c tc) (pd : PE X d td)
    (hm : lastMarks [o, o1, o2] [b, c, d] = false := by with_unfolding_all rfl) : PE X (.Compare a [o, o1, o2] [b, c, d] pos) (tChain3 r r1 r2 ta tb tc td) := by
  refine ⟨fun pins s σ H Q I h => Compare_chain ?_ hm⟩
  refine thn (pa.run pins s σ H _ I h) fun v s1 ⟨x, H1, I1, rx, q1⟩ => chain_link ?_
  refine thn (pb.run pins s1 σ H1 _ I1 q1) fun u s2 ⟨y, H2, I2, ry, q2⟩ => ?_
  refine thn (h0 pins s2 σ H2 x y v u _ I2 rx ry q2) fun e s3 ⟨z, H3, I3, r3, k, ek, q3⟩ => ?_
  subst ek
  cases r3
  refine wpAny_truthy_bool ?_
  cases k with
  | false => exact ite_ff ⟨.bl false, H3, I3, rfl, q3⟩
  | true =>
    refine ite_tt (chain_link ?_)
    refine thn (pc.run pins s3 σ H3 _ I3 q3) fun u4 s4 ⟨y4, H4, I4, r4, q4⟩ => ?_
    refine thn (h1 pins s4 σ H4 y y4 u u4 _ I4 ry r4 q4) fun e5 s5 ⟨z5, H5, I5, r5, k5, ek5, q5⟩ => ?_
    subst ek5
    cases r5
    refine wpAny_truthy_bool ?_
    cases k5 with
    | false => exact ite_ff ⟨.bl false, H5, I5, rfl, q5⟩
    | true => exact ite_tt (chain_last (thn (pd.run pins s5 σ H5 _ I5 q5) fun u6 s6 ⟨y6, H6, I6, r6, q6⟩ => h2 pins s6 σ H6 y4 y6 u4 u6 Q I6 r4 r6 q6))
end LL
namespace LL
open PySem PySem.Spec PyProof.Rows L2
/-- an int that is data is no giant -/
def intOk : PyData → Bool
  | .int i => decide (i.natAbs.log2 < 1920)
  | _ => true
theorem un_of {k : Nat} {A : Around} (r : Room k A) : A.units + 200 < cLine := by
  have := r.un
  omega
theorem call_reprW {X : Cx} (guard : X.A.guards = some []) (run : X.A.units + 200 < cLine) : CallR X (.builtin "repr") (fun xs H Q => ∃ v d, xs = [v] ∧ Dz H v d ∧ isDisplay d = true ∧ Sz d 60 200000 ∧ Q (.str d.shown) H) := by
  intro pins s σ H xs us Q I r ⟨v, d, e, dp, disp, sz, q⟩
  subst e
  obtain ⟨u, rfl, r1⟩ := vals1 r
  have dep := sz.dep
  have len : d.shown.length ≤ sizeLine := by
    have h1 := PyData.shown_le 60 (by decide) d sz.lv
    have h2 := sz.wt
    have h3 := PySem.sizeLine_eq
    omega
  have fin : ∀ h' u tk, (∀ b o, s.heap.get? b = some o → h'.get? b = some o) → ∃ v' H', Inv X pins σ H' { s with heap := h', toks := tk } ∧ RelV v' (.str d.shown u) ∧ Q v' H' :=
    fun h' u tk keep => ⟨.str _, H, I.kept keep, ⟨_, rfl⟩, q⟩
  cases dp with
  | @lst a xs ds hs ha =>
    cases r1
    obtain ⟨its, rv, ⟨o, n, ho, hc, _, hd⟩, _⟩ := I.list (SqL.of hs)
    have z2 : (listText (PyData.shownAll ds)).length ≤ sizeLine := by simpa only [PyData.shown] using len
    obtain ⟨as, bs, hr, most, hk⟩ := DzAll.rep I ds _ its ha rv (by simpa only [PyData.showable] using sz.sh) fun t ht => Nat.le_trans (listText_mem_le ht) z2
    have rr := Reads.list ho hc hd hr
    have no := not_mem_of_deeper rr (by simp only [PyData.depth]; omega) most
    simp only [PyData.depth] at dep
    simp only [PyData.shown] at fin
    refine call_repr_slot (by omega) ⟨o, ho, hc⟩ F.slot_list_repr.toG ?_
    cases its with
    | nil =>
      have e0 : PyData.shownAll ds = [] := List.length_eq_zero_iff.mp hk.length_eq
      rw [e0, listText_nil] at fin
      exact call_list_repr_empty ⟨o, ho, hc⟩ ho hd ⟨_, _, rfl, fin s.heap _ _ fun _ _ e => e⟩
    | cons x l => exact call_list_reprK ho hc hd no (by simpa using hk.length_eq) (fun i y e => hk.item i y (by simpa using e)) guard (fun b _ => Clear.nil b) (by show X.A.units + 1 + (PyData.depthAll ds + 1) < cLine; omega) (fun _ _ e => e) (fun h' u tk k => ⟨_, _, rfl, fin h' u tk k⟩) z2
  | @tup a xs ds hs ha =>
    cases r1
    obtain ⟨its, rv, ⟨o, ho, hc, n, hd⟩, _⟩ := I.tuple (SqT.of hs)
    have z2 : (tupleText (PyData.shownAll ds)).length ≤ sizeLine := by simpa only [PyData.shown] using len
    obtain ⟨as, bs, hr, most, hk⟩ := DzAll.rep I ds _ its ha rv (by simpa only [PyData.showable] using sz.sh) fun t ht => Nat.le_trans (tupleText_mem_le ht) z2
    have rr := Reads.tuple ho hc hd hr
    have no := not_mem_of_deeper rr (by simp only [PyData.depth]; omega) most
    simp only [PyData.depth] at dep
    simp only [PyData.shown] at fin
    refine call_repr_slot (by omega) ⟨o, ho, hc⟩ F.slot_tuple_repr ?_
    exact call_tuple_reprK ho hc hd no hk guard (fun b _ => Clear.nil b) (by show X.A.units + 1 + (PyData.depthAll ds + 1) < cLine; omega) (fun _ _ e => e) (fun h' u tk k => ⟨_, _, rfl, fin h' u tk k⟩) z2
  | _ => cases disp
/-- repr of any data: numbers, texts, truths, None, lists, tuples, {} -/
theorem call_reprU {X : Cx} (guard : X.A.guards = some []) (run : X.A.units + 200 < cLine) : CallR X (.builtin "repr") (fun xs H Q => ∃ v d, xs = [v] ∧ Dz H v d ∧ intOk d = true ∧ Sz d 60 200000 ∧ Q (.str d.shown) H) := by
  intro pins s σ H xs us Q I r ⟨v, d, e, dp, io, sz, q⟩
  subst e
  cases dp with
  | lst h t => exact call_reprW guard run pins s σ H _ us Q I r ⟨_, _, rfl, .lst h t, rfl, sz, q⟩
  | tup h t => exact call_reprW guard run pins s σ H _ us Q I r ⟨_, _, rfl, .tup h t, rfl, sz, q⟩
  | non =>
    obtain ⟨u, rfl, r1⟩ := vals1 r
    cases (show u = Value.none from r1)
    simp only [PyData.shown] at q
    exact PySem.P.repr_of_none ⟨.str _, H, I.tok _, ⟨_, rfl⟩, q⟩
  | bl b =>
    obtain ⟨u, rfl, r1⟩ := vals1 r
    cases (show u = Value.bool b from r1)
    simp only [PyData.shown] at q
    exact PySem.P.repr_of_bool ⟨.str _, H, I.tok _, ⟨_, rfl⟩, q⟩
  | int i =>
    obtain ⟨u, rfl, t, rfl⟩ := vals1 r
    simp only [PyData.shown] at q
    exact PySem.P.repr_of_int (of_decide_eq_true io) ⟨.str _, H, I.tok _, ⟨_, rfl⟩, q⟩
  | str z =>
    obtain ⟨u, rfl, t, rfl⟩ := vals1 r
    have len : (PyData.str z).shown.length ≤ sizeLine := by
      have h1 := PyData.shown_le 60 (by decide) _ sz.lv
      have h2 := sz.wt
      have h3 := PySem.sizeLine_eq
      omega
    simp only [PyData.shown] at q len
    exact PySem.P.repr_of_str ⟨.str _, H, I.tok _, ⟨_, rfl⟩, q⟩ len
  | dct h =>
    obtain ⟨u, rfl, r1⟩ := vals1 r
    cases r1
    obtain ⟨z, lo, vs, rel, o, es, ep, h1, h2, h3, h4, h5, h6⟩ := dk_rd I.hok (.inl h)
    cases rel
    have e0 : es.toList = [] := by
      cases q : es.toList with
      | nil => rfl
      | cons x xs =>
        rw [q] at h5
        cases h5
    simp only [PyData.shown, PyData.shownKv] at q
    refine call_repr_slot (by omega) ⟨o, h1, h2.1⟩ F.slot_dict_repr ?_
    exact call_dict_reprK (as := []) (d := 0) (ps := []) h1 h2.1 h3 lo List.not_mem_nil (by rw [e0]; exact ReprEntriesK.nil) guard (fun b _ => Clear.nil b) (by show X.A.units + 1 + (0 + 1) < cLine; omega) (fun _ _ e => e)
      (fun h' u tk k => ⟨_, _, rfl, .str _, H, I.kept k, ⟨_, rfl⟩, q⟩)
  | dct1 h =>
    obtain ⟨u, rfl, r1⟩ := vals1 r
    cases r1
    obtain ⟨z, lo, vs, rel, o, es, ep, h1, h2, h3, h4, h5, h6⟩ := dk_rd I.hok (.inl h)
    obtain ⟨⟨hh, ek, ev⟩, t, u, e0, he1, he2⟩ := one_entry rel h5
    have he1 : ek = .str "a" t := he1
    have he2 : ev = .int 1 u := he2
    subst he1 he2
    simp only [PyData.shown, PyData.shownKv] at q
    refine call_repr_slot (by omega) ⟨o, h1, h2.1⟩ F.slot_dict_repr ?_
    exact call_dict_reprK (hsz := by rw [show (dictText [reprText (Str.ofString "a") ++ Str.ofString ": " ++ Str.ofString (toString (1 : Int))]).length = 8 from by decide +kernel]; show 8 ≤ sizeLine; decide) (as := []) (d := 0) h1 h2.1 h3 lo List.not_mem_nil (by rw [e0]; exact ReprEntriesK.cons (.of_is (ReprIs.str "a" t (by rw [show (reprText (Str.ofString "a")).length = 3 from by decide +kernel]; show 3 ≤ sizeLine; decide)) _ _ _) (.of_is (ReprIs.int (a := 1) u (by decide +kernel)) _ _ _) ReprEntriesK.nil) guard (fun b _ => Clear.nil b) (by show X.A.units + 1 + (0 + 1) < cLine; omega) (fun _ _ e => e)
      (fun h' u tk k => ⟨_, _, rfl, .str _, H, I.kept k, ⟨_, rfl⟩, q⟩)
theorem call_reprA {X : Cx} (guard : X.A.guards = some []) {k : Nat} (room : Room k X.A) : CallR X (.builtin "repr") (fun xs H Q => ∃ v d, xs = [v] ∧ Dz H v d ∧ intOk d = true ∧ Sz d 60 200000 ∧ Q (.str d.shown) H) := call_reprU guard (un_of room)
end LL
namespace LL
open PySem PySem.Spec PyProof.Rows L2
/-! ### methods and __init__s that may raise; defaults -/
/-- a method of the class at C -/
structure Mn (K : PySem.W.Frag) (C : Addr) (x qual : Str) (st : Stmt) (ps : List Str) where
  f : Addr
  fd : FuncData
  F : Fun K x qual st f fd
  b : Binds K fd ps []
  h : Meth K C x f
/-- a method with one default, None -/
structure MnD (K : PySem.W.Frag) (C : Addr) (x qual : Str) (st : Stmt) (ps : List Str) where
  f : Addr
  fd : FuncData
  F : FunD K x qual (defArgs st) (defBody st) (defScope st) [.non] [] f fd
  b : Binds K fd ps []
  bd : Binds K fd ps [.none]
  h : Meth K C x f
section
variable {X : Cx} {CX : CXT} {k : Nat} {f C : Addr} {fd : FuncData} {ps : List Str} {sp : Sp} {dvs : List V} {ds : List Value} {E : L2.St → XK} {x m : Str} {p pos apos : Pos} {e o : Expr} {es : List Expr} {ta : TE} {t : TA}
theorem run_fnDS {pins : List (Addr × Obj)} {σ : L2.St} {H : Hp} {s : Shared} {Q : VK} {us : List Value} {vs : List V} (F : FnOk X.prog X.w X.K X.mg X.base CX k f fd ps sp) (hr : Room k X.A) (hb : Binds X.K fd ps ds) (hd : Vals dvs ds) (hx : PassesAt CX X σ (E σ))
    (I : Inv X pins σ H s) (r : Vals vs us) (h : sp (vs ++ dvs) H Q (E σ)) : wpAny (model X.prog X.w) X.A (call (.ref f) us) (EP X pins σ Q) X.xe s := by
  have r2 : Vals (vs ++ dvs) (us ++ ds) := r.append hd
  have hl : (us ++ ds).length = ps.length := by rw [← r2.length]; exact F.len _ _ _ _ h
  refine wpAny_call (codeAny_mono (F.run X.A X.stack s H ⟨us, []⟩ (us ++ ds) (vs ++ dvs) Q (E σ) hr I.env0 (hb s us I.kIn hl) r2 h) fun r s' hq => ?_)
  cases r with
  | error e => exact hx pins H s e s' I hq
  | ok fl =>
    cases fl with
    | ret u => exact I.after hq
    | next => exact False.elim hq
    | brk => exact False.elim hq
    | cont => exact False.elim hq
/-- o.m(e, ..), which may raise -/
def tMethS (C : Addr) (m : Str) (sp : Sp) (dvs : List V) (E : L2.St → XK) (to : TE) (t : TA) : TE := fun σ H Q => to σ H fun x H1 => ∃ a dx fs, x = .ref a ∧ H1 a = some (.ins C dx fs) ∧ fs.lookup m = none ∧ t σ H1 fun vs H2 => sp (x :: (vs ++ dvs)) H2 Q (E σ)
theorem pe_methS {pl : Sem Bool} (he : PE X o ta) (c : Cls X.K C) (hm : Meth X.K C m f) (F : FnOk X.prog X.w X.K X.mg X.base CX k f fd ps sp) (hr : Room k X.A) (hb : Binds X.K fd ps ds) (hd : Vals dvs ds) (hx : ∀ σ, PassesAt CX X σ (E σ)) (ha : PA X (e :: es) t)
    (hst : starEach (e :: es) X.env = (false, eval e X.env) :: starEach es X.env := by rfl) (hpl : (backTo pos (starEach es X.env)).any (·.1) = false := by rfl)
    (ht : eval (.Call (.Attribute o m apos) (e :: es) [] pos) X.env = (do
      let ov ← eval o X.env
      standAt apos.atName
      let (f, first) ← holding [ov] (getMethod ov m pl)
      callWith pos f first (backTo pos (starEach (e :: es) X.env)) (backToKw pos (keywordEach [] X.env))) := by rfl) :
    PE X (.Call (.Attribute o m apos) (e :: es) [] pos) (tMethS C m sp dvs E ta t) := by
  refine ⟨fun pins s σ H Q I h => ?_⟩
  refine PySem.W.methodCall_KW (pl := pl) (thn (he.run pins s σ H _ I h) fun u s1 ⟨x, H1, I1, rx, a, dx, fs, ex, ea, l, q⟩ => ?_) ht
  subst ex
  obtain rfl : u = Value.ref a := rx
  refine getmeth_ok I1 ea c hm l ?_
  refine PySem.W.callWith_K (first := [.ref a]) (h₀ := X.base) I.ok.mod.kin hm.kp (thn (ha.run pos pins s1 σ H1 _ I1 q) fun us s2 ⟨vs, H2, I2, r, q2⟩ => ⟨I2.kIn, ?_⟩) hst hpl
  exact run_fnDS (us := .ref a :: us) (vs := .ref a :: vs) F hr hb hd (hx σ) I2 (.cons rfl r) q2
theorem pe_meth0S {pl : Sem Bool} (he : PE X o ta) (c : Cls X.K C) (hm : Meth X.K C m f) (F : FnOk X.prog X.w X.K X.mg X.base CX k f fd ps sp) (hr : Room k X.A) (hb : Binds X.K fd ps ds) (hd : Vals dvs ds) (hx : ∀ σ, PassesAt CX X σ (E σ))
    (ht : eval (.Call (.Attribute o m apos) [] [] pos) X.env = (do
      let ov ← eval o X.env
      standAt apos.atName
      let (f, first) ← holding [ov] (getMethod ov m pl)
      callWith pos f first (backTo pos (starEach [] X.env)) (backToKw pos (keywordEach [] X.env))) := by rfl) :
    PE X (.Call (.Attribute o m apos) [] [] pos) (tMethS C m sp dvs E ta tNil) := by
  refine ⟨fun pins s σ H Q I h => ?_⟩
  refine PySem.W.methodCall_KW (pl := pl) (thn (he.run pins s σ H _ I h) fun u s1 ⟨x, H1, I1, rx, a, dx, fs, ex, ea, l, q⟩ => ?_) ht
  subst ex
  obtain rfl : u = Value.ref a := rx
  refine getmeth_ok I1 ea c hm l ?_
  exact PySem.W.callWith_K0 (first := [.ref a]) I1.kIn hm.kp (run_fnDS (us := [.ref a]) (vs := [.ref a]) F hr hb hd (hx σ) I1 (.cons rfl .nil) q)
theorem run_makeS {pins : List (Addr × Obj)} {σ : L2.St} {H : Hp} {s : Shared} {Q : VK} {us : List Value} {vs : List V} (M : Mk X.K C f) (F : FnOk X.prog X.w X.K X.mg X.base CX k f fd ps sp) (hr : Room (k + 1) X.A) (hb : Binds X.K fd ps ds) (hd : Vals dvs ds)
    (hx : PassesAt CX X σ (E σ)) (I : Inv X pins σ H s) (r : Vals vs us)
    (h : ∀ x dx, H x = none → H dx = none → dx ≠ x → sp (.ref x :: (vs ++ dvs)) (upd (upd H dx (.own x)) x (.ins C dx [])) (fun v H2 => v = .non ∧ Q (.ref x) H2) (E σ)) :
    wpAny (model X.prog X.w) X.A (call (.ref C) us) (EP X pins σ Q) X.xe s := by
  have hq := h (s.heap.objs.size + 1) s.heap.objs.size (I.hok.fresh (Nat.le_succ _)) (I.hok.fresh (Nat.le_refl _)) (Nat.ne_of_lt (Nat.lt_succ_self _))
  have I2 := Inv.made (C := C) I
  have r2 : Vals (V.ref (s.heap.objs.size + 1) :: (vs ++ dvs)) (Value.ref (s.heap.objs.size + 1) :: (us ++ ds)) := .cons rfl (r.append hd)
  have hl : (Value.ref (s.heap.objs.size + 1) :: us ++ ds).length = ps.length := by
    have e := r2.length
    rw [F.len _ _ _ _ hq] at e
    exact e.symm
  refine wpAny_call (make_map (f := f) I.kIn M.makes M.init (beq_iff_eq.mp M.fn) (codeAny_mono (F.run _ X.stack _ _ ⟨Value.ref (s.heap.objs.size + 1) :: us, []⟩ (Value.ref (s.heap.objs.size + 1) :: (us ++ ds)) _ _ (E σ) (hr.make C us [])
    (I2.env0.make C us []) (hb _ (Value.ref (s.heap.objs.size + 1) :: us) I2.kIn hl) r2 hq) fun r s' hq' => ?_))
  cases r with
  | error e => exact hx pins _ _ e s' I2 hq'
  | ok fl =>
    cases fl with
    | ret u =>
      obtain ⟨v, H', I3, rv, ev, q3⟩ := I2.after hq'
      subst ev
      exact ⟨rv, ⟨V.ref (s.heap.objs.size + 1), H', I3, rfl, q3⟩⟩
    | next => exact False.elim hq'
    | brk => exact False.elim hq'
    | cont => exact False.elim hq'
/-- C(e, ..), whose __init__ may raise -/
def tMakeS (C : Addr) (sp : Sp) (dvs : List V) (E : L2.St → XK) (t : TA) : TE := fun σ H Q => t σ H fun vs H1 => ∀ x dx, H1 x = none → H1 dx = none → dx ≠ x → sp (.ref x :: (vs ++ dvs)) (upd (upd H1 dx (.own x)) x (.ins C dx [])) (fun v H2 => v = .non ∧ Q (.ref x) H2) (E σ)
theorem pe_makeS (M : Mk X.K C f) (F : FnOk X.prog X.w X.K X.mg X.base CX k f fd ps sp) (hr : Room (k + 1) X.A) (hg : Gl X x) (hm : X.mg x = some (.ref C)) (hb : Binds X.K fd ps ds) (hd : Vals dvs ds) (hx : ∀ σ, PassesAt CX X σ (E σ))
    (ha : PA X (e :: es) t) (hdb : (x == ("__debug__" : Str)) = false := by decide) (he : starEach (e :: es) X.env = (false, eval e X.env) :: starEach es X.env := by rfl) (hpl : (backTo pos (starEach es X.env)).any (·.1) = false := by rfl) :
    PE X (.Call (.Name x p) (e :: es) [] pos) (tMakeS C sp dvs E t) := by
  refine ⟨fun pins s σ H Q I h => ?_⟩
  refine wpAny_Call_Name_kw (ld_glob I hg hm ?_ hdb)
  refine PySem.W.callWith_K (h₀ := X.base) I.ok.mod.kin M.kp (thn (ha.run pos pins s σ H _ I h) fun us s1 ⟨vs, H1, I1, r, q⟩ => ⟨I1.kIn, ?_⟩) he hpl
  exact run_makeS M F hr hb hd (hx σ) I1 r q
end
section
variable {X : Cx} {C : Addr} {x y qual : Str} {st : Stmt} {ps : List Str} {sp : Sp} {j k : Nat} {o e : Expr} {es : List Expr} {to : TE} {t : TA} {p pos apos : Pos} {pl : Sem Bool} {W : WX} {f : Addr} {fd : FuncData}
/-- o.m(e, ..), never raising | that may raise -/
theorem pmeth (D : Mn X.K C x qual st ps) (G : FnOk X.prog X.w X.K X.mg X.base CX0 j D.f D.fd ps sp) (c : Cls X.K C) (hr : Room k X.A) (hjk : j ≤ k) (ho : PE X o to) (ha : PA X (e :: es) t)
    (hst : starEach (e :: es) X.env = (false, eval e X.env) :: starEach es X.env := by rfl) (hpl : (backTo pos (starEach es X.env)).any (·.1) = false := by rfl)
    (ht : eval (.Call (.Attribute o x apos) (e :: es) [] pos) X.env = (do
      let ov ← eval o X.env
      standAt apos.atName
      let (f, first) ← holding [ov] (getMethod ov x pl)
      callWith pos f first (backTo pos (starEach (e :: es) X.env)) (backToKw pos (keywordEach [] X.env))) := by rfl) :
    PE X (.Call (.Attribute o x apos) (e :: es) [] pos) (tMeth C x sp [] E0 to t) := pe_meth ho c D.h G (hr.mono hjk) D.b .nil pass0 ha hst hpl ht
theorem pmeth0 (D : Mn X.K C x qual st ps) (G : FnOk X.prog X.w X.K X.mg X.base CX0 j D.f D.fd ps sp) (c : Cls X.K C) (hr : Room k X.A) (hjk : j ≤ k) (ho : PE X o to)
    (ht : eval (.Call (.Attribute o x apos) [] [] pos) X.env = (do
      let ov ← eval o X.env
      standAt apos.atName
      let (f, first) ← holding [ov] (getMethod ov x pl)
      callWith pos f first (backTo pos (starEach [] X.env)) (backToKw pos (keywordEach [] X.env))) := by rfl) :
    PE X (.Call (.Attribute o x apos) [] [] pos) (tMeth C x sp [] E0 to tNil) := pe_meth0 ho c D.h G (hr.mono hjk) D.b .nil pass0 ht
/-- C(e, ..) -/
theorem pmake (M : Mk X.K C f) (b : Binds X.K fd ps []) (G : FnOk X.prog X.w X.K X.mg X.base CX0 j f fd ps sp) (hr : Room k X.A) (hjk : j + 1 ≤ k) (hg : Gl X x) (hm : X.mg x = some (.ref C)) (ha : PA X (e :: es) t)
    (hd : (x == ("__debug__" : Str)) = false := by decide) (he : starEach (e :: es) X.env = (false, eval e X.env) :: starEach es X.env := by rfl) (hp : (backTo pos (starEach es X.env)).any (·.1) = false := by rfl) :
    PE X (.Call (.Name x p) (e :: es) [] pos) (tMake C sp [] E0 t) := pe_make M G (hr.mono hjk) hg hm b .nil pass0 ha hd he hp
/-- C(), one default filled up -/
theorem pmake0 (M : Mk X.K C f) (b : Binds X.K fd ps [.none]) (G : FnOk X.prog X.w X.K X.mg X.base CX0 j f fd ps sp) (hr : Room k X.A) (hjk : j + 1 ≤ k) (hg : Gl X x) (hm : X.mg x = some (.ref C))
    (hd : (x == ("__debug__" : Str)) = false := by decide) :
    PE X (.Call (.Name x p) [] [] pos) (tMake C sp [.non] E0 tNil) := pe_make0 M G (hr.mono hjk) hg hm b (.cons rfl .nil) pass0 hd
theorem pmakeX (M : Mk X.K C f) (b : Binds X.K fd ps []) (G : FnOk X.prog X.w X.K X.mg X.base (CX X.prog X.w) j f fd ps sp) (tk : Takes X W) (hr : Room k X.A) (hjk : j + 1 ≤ k) (hg : Gl X x) (hm : X.mg x = some (.ref C)) (ha : PA X (e :: es) t)
    (hd : (x == ("__debug__" : Str)) = false := by decide) (he : starEach (e :: es) X.env = (false, eval e X.env) :: starEach es X.env := by rfl) (hp : (backTo pos (starEach es X.env)).any (·.1) = false := by rfl) :
    PE X (.Call (.Name x p) (e :: es) [] pos) (tMakeS C sp [] (WE W) t) := pe_makeS M G (hr.mono hjk) hg hm b .nil (fun σ => passAt tk σ) ha hd he hp
theorem pmethX (h : Meth X.K C x f) (b : Binds X.K fd ps []) (G : FnOk X.prog X.w X.K X.mg X.base (CX X.prog X.w) j f fd ps sp) (tk : Takes X W) (c : Cls X.K C) (hr : Room k X.A) (hjk : j ≤ k) (ho : PE X o to) (ha : PA X (e :: es) t)
    (hst : starEach (e :: es) X.env = (false, eval e X.env) :: starEach es X.env := by rfl) (hpl : (backTo pos (starEach es X.env)).any (·.1) = false := by rfl)
    (ht : eval (.Call (.Attribute o x apos) (e :: es) [] pos) X.env = (do
      let ov ← eval o X.env
      standAt apos.atName
      let (f, first) ← holding [ov] (getMethod ov x pl)
      callWith pos f first (backTo pos (starEach (e :: es) X.env)) (backToKw pos (keywordEach [] X.env))) := by rfl) :
    PE X (.Call (.Attribute o x apos) (e :: es) [] pos) (tMethS C x sp [] (WE W) to t) := pe_methS ho c h G (hr.mono hjk) b .nil (fun σ => passAt tk σ) ha hst hpl ht
/-- a method with a default, the default filled up -/
theorem pmethD (h : Meth X.K C x f) (b : Binds X.K fd ps [.none]) (G : FnOk X.prog X.w X.K X.mg X.base CX0 j f fd ps sp) (c : Cls X.K C) (hr : Room k X.A) (hjk : j ≤ k) (ho : PE X o to) (ha : PA X (e :: es) t)
    (hst : starEach (e :: es) X.env = (false, eval e X.env) :: starEach es X.env := by rfl) (hpl : (backTo pos (starEach es X.env)).any (·.1) = false := by rfl)
    (ht : eval (.Call (.Attribute o x apos) (e :: es) [] pos) X.env = (do
      let ov ← eval o X.env
      standAt apos.atName
      let (f, first) ← holding [ov] (getMethod ov x pl)
      callWith pos f first (backTo pos (starEach (e :: es) X.env)) (backToKw pos (keywordEach [] X.env))) := by rfl) :
    PE X (.Call (.Attribute o x apos) (e :: es) [] pos) (tMeth C x sp [.non] E0 to t) := pe_meth ho c h G (hr.mono hjk) b (.cons rfl .nil) pass0 ha hst hpl ht
end
section
variable {X : Cx} {C : Addr} {x y qual : Str} {st : Stmt} {ps : List Str} {sp : Sp} {j k : Nat} {o e : Expr} {es : List Expr} {to : TE} {t : TA} {p pos apos : Pos} {pl : Sem Bool} {W : WX} {f : Addr} {fd : FuncData}
/-- what may raise, called where it doesn't -/
theorem passG : Passes (CX X.prog X.w) X E0 := fun _ _ _ _ _ _ _ c => by
  obtain ⟨_, _, _, _, _, _, _, _, _, _, _, _, f⟩ := c
  exact f.elim
theorem pmakeG (M : Mk X.K C f) (b : Binds X.K fd ps []) (G : FnOk X.prog X.w X.K X.mg X.base (CX X.prog X.w) j f fd ps sp) (hr : Room k X.A) (hjk : j + 1 ≤ k) (hg : Gl X x) (hm : X.mg x = some (.ref C)) (ha : PA X (e :: es) t)
    (hd : (x == ("__debug__" : Str)) = false := by decide) (he : starEach (e :: es) X.env = (false, eval e X.env) :: starEach es X.env := by rfl) (hp : (backTo pos (starEach es X.env)).any (·.1) = false := by rfl) :
    PE X (.Call (.Name x p) (e :: es) [] pos) (tMake C sp [] E0 t) := pe_make M G (hr.mono hjk) hg hm b .nil passG ha hd he hp
/-- C(), one default filled up -/
theorem pmake0G (M : Mk X.K C f) (b : Binds X.K fd ps [.none]) (G : FnOk X.prog X.w X.K X.mg X.base (CX X.prog X.w) j f fd ps sp) (hr : Room k X.A) (hjk : j + 1 ≤ k) (hg : Gl X x) (hm : X.mg x = some (.ref C))
    (hd : (x == ("__debug__" : Str)) = false := by decide) :
    PE X (.Call (.Name x p) [] [] pos) (tMake C sp [.non] E0 tNil) := pe_make0 M G (hr.mono hjk) hg hm b (.cons rfl .nil) passG hd
theorem pmethG (h : Meth X.K C x f) (b : Binds X.K fd ps []) (G : FnOk X.prog X.w X.K X.mg X.base (CX X.prog X.w) j f fd ps sp) (c : Cls X.K C) (hr : Room k X.A) (hjk : j ≤ k) (ho : PE X o to) (ha : PA X (e :: es) t)
    (hst : starEach (e :: es) X.env = (false, eval e X.env) :: starEach es X.env := by rfl) (hpl : (backTo pos (starEach es X.env)).any (·.1) = false := by rfl)
    (ht : eval (.Call (.Attribute o x apos) (e :: es) [] pos) X.env = (do
      let ov ← eval o X.env
      standAt apos.atName
      let (f, first) ← holding [ov] (getMethod ov x pl)
      callWith pos f first (backTo pos (starEach (e :: es) X.env)) (backToKw pos (keywordEach [] X.env))) := by rfl) :
    PE X (.Call (.Attribute o x apos) (e :: es) [] pos) (tMeth C x sp [] E0 to t) := pe_meth ho c h G (hr.mono hjk) b .nil passG ha hst hpl ht
theorem pmethDG (h : Meth X.K C x f) (b : Binds X.K fd ps [.none]) (G : FnOk X.prog X.w X.K X.mg X.base (CX X.prog X.w) j f fd ps sp) (c : Cls X.K C) (hr : Room k X.A) (hjk : j ≤ k) (ho : PE X o to) (ha : PA X (e :: es) t)
    (hst : starEach (e :: es) X.env = (false, eval e X.env) :: starEach es X.env := by rfl) (hpl : (backTo pos (starEach es X.env)).any (·.1) = false := by rfl)
    (ht : eval (.Call (.Attribute o x apos) (e :: es) [] pos) X.env = (do
      let ov ← eval o X.env
      standAt apos.atName
      let (f, first) ← holding [ov] (getMethod ov x pl)
      callWith pos f first (backTo pos (starEach (e :: es) X.env)) (backToKw pos (keywordEach [] X.env))) := by rfl) :
    PE X (.Call (.Attribute o x apos) (e :: es) [] pos) (tMeth C x sp [.non] E0 to t) := pe_meth ho c h G (hr.mono hjk) b (.cons rfl .nil) passG ha hst hpl ht
theorem pmethDX (h : Meth X.K C x f) (b : Binds X.K fd ps [.none]) (G : FnOk X.prog X.w X.K X.mg X.base (CX X.prog X.w) j f fd ps sp) (tk : Takes X W) (c : Cls X.K C) (hr : Room k X.A) (hjk : j ≤ k) (ho : PE X o to) (ha : PA X (e :: es) t)
    (hst : starEach (e :: es) X.env = (false, eval e X.env) :: starEach es X.env := by rfl) (hpl : (backTo pos (starEach es X.env)).any (·.1) = false := by rfl)
    (ht : eval (.Call (.Attribute o x apos) (e :: es) [] pos) X.env = (do
      let ov ← eval o X.env
      standAt apos.atName
      let (f, first) ← holding [ov] (getMethod ov x pl)
      callWith pos f first (backTo pos (starEach (e :: es) X.env)) (backToKw pos (keywordEach [] X.env))) := by rfl) :
    PE X (.Call (.Attribute o x apos) (e :: es) [] pos) (tMethS C x sp [.non] (WE W) to t) := pe_methS ho c h G (hr.mono hjk) b (.cons rfl .nil) (fun σ => passAt tk σ) ha hst hpl ht
theorem pcallGX (D : Dn X.K X.mg x st ps) (G : FnOk X.prog X.w X.K X.mg X.base (CX X.prog X.w) j D.f D.fd ps sp) (hr : Room k X.A) (hjk : j ≤ k) (hg : Gl X x) (ha : PA X (e :: es) t) (hd : (x == ("__debug__" : Str)) = false := by decide)
    (he : starEach (e :: es) X.env = (false, eval e X.env) :: starEach es X.env := by rfl) (hp : (backTo pos (starEach es X.env)).any (·.1) = false := by rfl) :
    PE X (.Call (.Name x p) (e :: es) [] pos) (tCall sp [] E0 t) := pe_call G (hr.mono hjk) hg D.m D.F.kp D.b .nil passG ha hd he hp
end
/-! ### isinstance of a caught own error, several classes -/
theorem vals_refs : ∀ {rs : List Addr} {its : List Value}, Vals (rs.map V.ref) its → its = rs.map Value.ref
  | [], _, .nil => rfl
  | r :: rs, _, .cons h t => by
    rw [vals_refs (rs := rs) t]
    exact congrArg (fun z => z :: rs.map Value.ref) h
def rIsXT (K : PySem.W.Frag) (D a : Addr) (cls : Value) (d : Option Addr) : List V → Hp → VK → Prop := fun xs H Q =>
  ∃ (tp : Addr) (rs : List Addr) (b : Bool) (dx : Addr) (fs : List (Str × V)), xs = [.ref a, .ref tp] ∧ cls = .ref D ∧ d = some dx ∧ H tp = some (.tup (rs.map V.ref)) ∧ PySem.W.kitAny K (.ref D) (rs.map Value.ref) = some b ∧ H dx = some (.xd fs) ∧ Q (.bl b) H
/-- isinstance(e, (X, Y, ..)), e being caught -/
theorem call_isEXT {X : Cx} {a D : Addr} {cls : Value} {d : Option Addr} {oe : Obj} {pn : List (Addr × Obj)} (C : ExcC X.K D) (hz : Zc cls d oe) (hf : ∃ vs, oe.data = .fields vs) :
    CallR (X.suite a ((a, oe) :: pn)) (.builtin "isinstance") (rIsXT X.K D a cls d) := by
  rintro pins s σ H xs us Q I r ⟨tp, rs, b, dx, fs, rfl, hcls, hdd, hT, e, hd, q⟩
  cases r with
  | cons rx rr =>
    cases rr with
    | cons rt rr =>
      cases rr
      have rx : _ = _ := rx
      have rt : _ = _ := rt
      have p := I.pin (a, oe) List.mem_cons_self
      have ok := I.hok dx _ hd
      have : ∃ od, s.heap.get? dx = some od := by
        unfold ObjOk at ok
        obtain ⟨mA, ns, _⟩ := ok
        obtain ⟨o, es, ep, q, _⟩ := ns
        exact ⟨o, q⟩
      obtain ⟨od, hod⟩ := this
      obtain ⟨ocls, odict, odata, osl⟩ := oe
      obtain ⟨vs, hv⟩ := hf
      obtain ⟨h1, h2⟩ := hz
      have h1 : ocls = cls := h1
      have h2 : odict = d := h2
      have hv : odata = .fields vs := hv
      subst h1 h2 hv rx rt hcls hdd
      have J : PySem.W.InstAt s.heap a ⟨.ref D, some dx, .fields vs, osl⟩ D (some od) := ⟨p.1, rfl, rfl, hod⟩
      obtain ⟨_, its, rv, o, g1, g2, n, g3⟩ := (show ObjOk X.prog X.w H s.heap tp (.tup (rs.map V.ref)) from I.hok tp _ hT)
      have e3 := vals_refs rv
      subst e3
      obtain ⟨oc, od2, dt, sl⟩ := o
      simp only at g2 g3
      subst g2 g3
      refine PySem.W.kia_tup (kitx_excX C) I.kIn J g1 e (fun z => nomatch z) fun tk => ?_
      exact ⟨.bl b, H, I.kept fun x _ z => z, rfl, q⟩
theorem kit_none {K : PySem.W.Frag} {t : Value} : ∀ {cs : List Value}, (∀ c ∈ cs, PySem.W.kitOne K t c = some false) → PySem.W.kitAny K t cs = some false
  | [], _ => rfl
  | c :: cs, h => by
    unfold PySem.W.kitAny
    rw [h c List.mem_cons_self]
    exact kit_none fun x hx => h x (List.mem_cons_of_mem _ hx)
end LL
namespace LL
open PySem PySem.Spec PyProof.Rows L2
/-! ### own errors raised where nothing is handled: their context is None; raise .. from None in a suite -/
section
variable {P : Program} {w : World} {K : PySem.W.Frag} {mg : Str → Option Value} {base : Heap} {f : Addr} {fd : FuncData} {ps : List Str} {sp : Sp} {k : Nat}
/-- what raises errors without a context raises errors -/
theorem fn_zc (F : FnOk P w K mg base (L2N.CX P w) k f fd ps sp) : FnOk P w K mg base (CX P w) k f fd ps sp := by
  refine ⟨F.len, fun A outer s H args us vs Q E hr e0 b r h => codeAny_mono (F.run A outer s H args us vs Q E hr e0 b r h) fun r s' hq => ?_⟩
  cases r with
  | ok fl => cases fl <;> exact hq
  | error e =>
    obtain ⟨a, B, H', cls, d, h1, h2, h3⟩ := hq
    exact ⟨a, B, H', cls, d, h1, L2H.flyingZ_imp (fun o z => z.zc) h2, h3⟩
/-- a def that may raise, its errors without a context -/
theorem okN {x qual : Str} {st : Stmt} {N : List Str} (F : Fun K x qual st f fd) (S : FnScope N ps (defScope st)) (len : ∀ (vs : List V) (H : Hp) (Q : VK) (E : XK), sp vs H Q E → vs.length = ps.length)
    (h : ∀ (cdv : Value) (A : Around) (outer : List Env) (s : Shared) (H : Hp) (vs : List V) (Q : VK) (E : XK), Room k (A.deeper (envOfC qual (defScope st) s.heap.objs.size f cdv)) → sp vs H Q E →
      ∃ t, PSs (cxOf (L2N.CX P w) P w K mg base N qual (defScope st) f cdv A outer s H E) (defBody st) t ∧ t { nx := fun _ H' => Q V.non H', rt := Q } (L2.start N vs) H) :
    FnOk P w K mg base (L2N.CX P w) (k + 1) f fd ps sp := by
  obtain ⟨oc, od, kV, doc, pm, an, cdv, ct, osl, rfl, l, c⟩ := F.ex
  exact fn_of l c S len fun A outer s H vs Q E hr q => h cdv A outer s H vs Q E hr q
/-- a def called while an error is handled -/
theorem okH {CX : CXT} {x qual : Str} {st : Stmt} {N : List Str} (F : Fun K x qual st f fd) (S : FnScope N ps (defScope st)) (len : ∀ (vs : List V) (H : Hp) (Q : VK) (E : XK), sp vs H Q E → vs.length = ps.length)
    (h : ∀ (cdv : Value) (A : Around) (outer : List Env) (s : Shared) (H : Hp) (vs : List V) (Q : VK) (E : XK) (p : Addr × Obj), sp vs H Q E →
      ∃ t, PSs (L2H.cxH CX P w K mg base N qual (defScope st) f cdv A outer s H E p) (defBody st) t ∧ t { nx := fun _ H' => Q V.non H', rt := Q } (L2.start N vs) H) :
    L2H.FnH P w K mg base CX (k + 1) f fd ps sp := by
  obtain ⟨oc, od, kV, doc, pm, an, cdv, ct, osl, rfl, l, c⟩ := F.ex
  exact L2H.fn_ofH l c S len fun A outer s H vs Q E p _ _ q => h cdv A outer s H vs Q E p q
end
section
variable {X : Cx}
theorem oex_raises {C : Addr} (T : OexC X.K C) : Raises X (.ref C) := fun M h kin => ⟨PySem.W.looks_subIn kin T.exC, PySem.W.looks_typeIn kin T.tyC⟩
/-- X(e), an error, where nothing is handled -/
theorem pmkEN {P : Program} {w : World} {K : PySem.W.Frag} {mg : Str → Option Value} {base : Heap} {x fld : Str} {st : Stmt} {e : Expr} {ta : TA} {p pos : Pos} {j k : Nat} (R : ErC K mg x fld st) (G : FnOk P w K mg base CX0 j R.f R.fd ["self", fld] (spInitE K fld))
    (e1 : X.prog = P) (e2 : X.w = w) (e3 : X.K = K) (e4 : X.mg = mg) (e5 : X.base = base)
    (hr : Room k X.A) (hjk : j + 1 ≤ k) (hg : Gl X x) (ha : PA X [e] ta) (hd : (x == ("__debug__" : Str)) = false := by decide)
    (hst : starEach [e] X.env = (false, eval e X.env) :: starEach [] X.env := by rfl) (hpl : (backTo pos (starEach [] X.env)).any (·.1) = false := by rfl) : L2N.PMk X (.Call (.Name x p) [e] [] pos) (tMkO R.C (spInitE K fld) [] ta) := by
  subst e1 e2 e3 e4 e5
  have T := R.oex
  intro pins s σ H Q I h
  obtain ⟨nm, q, N, bs, bm, sn, sub, ab, col, dd, k0, k1, k2, k3, k5, hC, hbm⟩ := T.cls
  refine wpAny_Call_Name_kw (ld_glob I hg R.g ?_ hd)
  refine PySem.W.callWith_K (h₀ := X.base) I.ok.mod.kin T.kC (thn (ha.run pos pins s σ H _ I h) fun us s1 ⟨vs, H1, I1, r1, hz, q1⟩ => ⟨I1.kIn, ?_⟩) hst hpl
  show wpAny _ _ (call (.ref R.C) us) _ _ _
  obtain ⟨hp, g, dr, tk, os⟩ := s1
  have hsz : hp.objs.size ≤ hp.objs.size + 1 := Nat.le_succ _
  have hn : H1 (hp.objs.size + 1) = none := I1.hok.fresh hsz
  have kk : ∀ b o, hp.get? b = some o → ((hp.push (PySem.W.kdv_tup us)).push (PySem.HandSPX.excO R.C hp.objs.size)).get? b = some o := fun b o e => Heap.get?_push_of_some _ (Heap.get?_push_of_some _ e)
  have hget : ((hp.push (PySem.W.kdv_tup us)).push (PySem.HandSPX.excO R.C hp.objs.size)).get? (hp.objs.size + 1) = some (PySem.HandSPX.excO R.C hp.objs.size) := by heap_get
  have I2 : Inv X pins σ (upd H1 (hp.objs.size + 1) (exo (hp.objs.size + 1) R.C none)) ⟨(hp.push (PySem.W.kdv_tup us)).push (PySem.HandSPX.excO R.C hp.objs.size), g, dr, tk, os⟩ :=
    I1.laid (t' := tk) (a := hp.objs.size + 1) (o := exo (hp.objs.size + 1) R.C none) (h' := (hp.push (PySem.W.kdv_tup us)).push (PySem.HandSPX.excO R.C hp.objs.size)) kk hsz (exo_ok hget)
  have r2 : Vals (V.ref (hp.objs.size + 1) :: (vs ++ [])) (Value.ref (hp.objs.size + 1) :: (us ++ [])) := by
    rw [List.append_nil, List.append_nil]
    exact .cons rfl r1
  have hq := q1 _ hn
  have hl : (Value.ref (hp.objs.size + 1) :: us ++ []).length = (["self", fld] : List Str).length := by
    have e := r2.length
    rw [G.len _ _ _ _ hq] at e
    exact e.symm
  have hus : us.length ≤ sizeLine := by
    rw [← Paired.length r1, sizeLine_eq]
    omega
  have hb := R.b _ (Value.ref (hp.objs.size + 1) :: us) I2.kIn hl
  rw [List.cons_append] at hb
  refine wpAny_call (PySem.HandSPX.call_own F.excBase_ValueError (fun Y => PySem.HandSPX.refsVE_contains Y bm hbm) (I1.kIn _ _ hC) (PySem.W.looks_findIn I1.kIn R.iC) (fun self => PySem.W.bind_fn I1.kIn self R.tI) hus
    (codeAny_mono (G.run _ X.stack _ _ ⟨Value.ref (hp.objs.size + 1) :: us, []⟩ (Value.ref (hp.objs.size + 1) :: (us ++ [])) _ _ (fun _ _ _ => False) ((hr.mono hjk).make R.C us []) (I2.env0.make R.C us []) hb r2 hq) fun r s' hq' => ?_))
  cases r with
  | error er => exact pass0 (X := X) pins σ _ _ er s' I2 hq'
  | ok fl =>
    cases fl with
    | ret u =>
      obtain ⟨v, H2, os2, bare2, un2, hok2, rv, ev, d, fs, ha2, hd2, hd1, q2⟩ := hq'
      subst ev
      obtain ⟨h2, g2, d2, t2, os'⟩ := s'
      obtain ⟨t0, G2, J, keep, Ga, hga, na⟩ := mk_end0 (g2 := g2) (d2 := d2) (t2 := t2) (os2 := os') I1 hsz kk un2 hok2 os2 bare2 ha2 hd2 hd1
      exact ⟨rv, hp.objs.size + 1, _, _, _, _, _, _, rfl, J, keep, Ga, hga, ⟨rfl, rfl, fun vs e => by cases e; rfl⟩, rfl, rfl, na, rfl, bare2, oex_raises T, q2⟩
    | next => exact False.elim hq'
    | brk => exact False.elim hq'
    | cont => exact False.elim hq'
/-- C(e, ..), whose __init__ may raise errors without a context -/
theorem pmakeN {C f : Addr} {fd : FuncData} {ps : List Str} {sp : Sp} {j k : Nat} {x : Str} {e : Expr} {es : List Expr} {t : TA} {p pos : Pos} {W : WX} (M : Mk X.K C f) (b : Binds X.K fd ps []) (G : FnOk X.prog X.w X.K X.mg X.base (L2N.CX X.prog X.w) j f fd ps sp) (tk : L2N.Takes X W) (hr : Room k X.A) (hjk : j + 1 ≤ k) (hg : Gl X x) (hm : X.mg x = some (.ref C)) (ha : PA X (e :: es) t)
    (hd : (x == ("__debug__" : Str)) = false := by decide) (he : starEach (e :: es) X.env = (false, eval e X.env) :: starEach es X.env := by rfl) (hp : (backTo pos (starEach es X.env)).any (·.1) = false := by rfl) :
    PE X (.Call (.Name x p) (e :: es) [] pos) (tMakeS C sp [] (WE W) t) := pe_makeS M G (hr.mono hjk) hg hm b .nil (fun σ => L2N.passAt tk σ) ha hd he hp
end
end LL
namespace LL
open PySem PySem.Spec PyProof.Rows L2
/-! ### len(set(xs)), xs a list or a tuple of any texts -/
/-- how many unlike texts are among the first i -/
def cntD (xs : List Str) : Nat → Nat
  | 0 => 0
  | i + 1 => match xs[i]? with
    | some x => if upTill xs i x = true then cntD xs i else cntD xs i + 1
    | none => cntD xs i
theorem cntD_step {xs : List Str} {i : Nat} {x : Str} (e : xs[i]? = some x) : cntD xs (i + 1) = if upTill xs i x = true then cntD xs i else cntD xs i + 1 := by
  show (match xs[i]? with
    | some x => if upTill xs i x = true then cntD xs i else cntD xs i + 1
    | none => cntD xs i) = _
  rw [e]
theorem cntD_le (xs : List Str) : ∀ i, cntD xs i ≤ i
  | 0 => Nat.le_refl _
  | i + 1 => by
    have h := cntD_le xs i
    cases e : xs[i]? with
    | none =>
      show (match xs[i]? with
        | some x => if upTill xs i x = true then cntD xs i else cntD xs i + 1
        | none => cntD xs i) ≤ _
      rw [e]
      exact Nat.le_succ_of_le h
    | some x =>
      rw [cntD_step e]
      split <;> omega
theorem cntD_nd {xs : List Str} (nd : xs.Nodup) : ∀ i, i ≤ xs.length → cntD xs i = i
  | 0, _ => rfl
  | i + 1, h => by
    have e : xs[i]? = some xs[i] := List.getElem?_eq_getElem (by omega)
    rw [cntD_step e, upTill_no nd e, cntD_nd nd i (by omega)]
    rfl
/-- what stands twice counts once -/
theorem cntD_two {xs : List Str} {i j : Nat} {x : Str} (h1 : xs[i]? = some x) (h2 : xs[j]? = some x) (lt : i < j) : cntD xs xs.length < xs.length := by
  have hj := (List.getElem?_eq_some_iff.mp h2).1
  have up : upTill xs j x = true := by
    refine List.any_eq_true.mpr ⟨x, List.mem_iff_getElem?.mpr ⟨i, ?_⟩, beq_self_eq_true x⟩
    rw [List.getElem?_take, if_pos lt]
    exact h1
  have at_ : cntD xs (j + 1) < j + 1 := by
    rw [cntD_step h2, up, if_pos rfl]
    have := cntD_le xs j
    omega
  have more : ∀ k, j + 1 + k ≤ xs.length → cntD xs (j + 1 + k) < j + 1 + k := by
    intro k
    induction k with
    | zero => exact fun _ => at_
    | succ k ih =>
      intro h
      have e : xs[j + 1 + k]? = some xs[j + 1 + k] := List.getElem?_eq_getElem (by omega)
      have := ih (by omega)
      rw [← Nat.add_assoc, cntD_step e]
      split <;> omega
  have := more (xs.length - (j + 1)) (by omega)
  rw [show j + 1 + (xs.length - (j + 1)) = xs.length by omega] at this
  exact this
section
variable {prog : Program} {w : World} {A : Around}
abbrev SetAtD (prog : Program) (w : World) (h : Heap) (S : Addr) (xs : List Str) (i : Nat) : Prop := h.SetOf (PySem.strKind prog w) S (upTill xs i) (cntD xs i)
theorem SetAtD.move {h h' : Heap} {S : Addr} {xs : List Str} {i : Nat} (x : SetAtD prog w h S xs i) (k : ∀ o, h.get? S = some o → h'.get? S = some o) : SetAtD prog w h' S xs i := by
  obtain ⟨o, es, ep, t, ho, r⟩ := x
  exact ⟨o, es, ep, t, k o ho, r⟩
/-- one text more -/
theorem set_moreD {xs : List Str} {S : Addr} {i : Nat} {x : Str} {t : Tok} {s : Shared} {E : Value → Shared → Prop} {Q : Bool → Shared → Prop} (few : xs.length + 1 < scanBound) (e : xs[i]? = some x) (st : SetAtD prog w s.heap S xs i)
    (q : ∀ b h' tk, s.toks ≤ tk → Heap.SameBut S s.heap h' → SetAtD prog w h' S xs (i + 1) → Q b { s with heap := h', toks := tk }) :
    wpAny (model prog w) A (setAdd S (.str x t)) Q E s := by
  have hi := (List.getElem?_eq_some_iff.mp e).1
  have hc := cntD_le xs i
  unfold setAdd
  refine wpAny_holding (wpAny_bind ((PySem.strKind prog w).pyHash (k := x) (strKind_is _ _ _ _) ?_))
  refine wpAny_setAddHashed_of (knd := PySem.strKind prog w) (s := { s with toks := s.toks + 1 }) (strKind_is _ _ _ _) rfl st (by omega) fun h' sb so => q _ h' _ (Nat.le_succ _) sb ?_
  exact SetOf_congr so (upTill_step e) (cntD_step e).symm
/-- all of them, one by one -/
theorem set_allD {R : Result → Shared → Prop} {I S : Addr} {fp wr : List Addr} {G : Array GenState → Array GenState → Prop} {n : Nat} {Pw : Nat → Value → Prop} {St : Nat → Shared → Prop} (W : WalksS prog w A.in1 I fp wr G n Pw St) (out : S ∉ fp) {xs : List Str} (ln : xs.length = n) (few : n + 1 < scanBound)
    (are : ∀ i v, Pw i v → ∃ x t, xs[i]? = some x ∧ v = .str x t) : ∀ (d i : Nat) (s : Shared), n - i = d → i ≤ n → St i s → SetAtD prog w s.heap S xs i → (∀ s', Moved (S :: wr) G s s' → SetAtD prog w s'.heap S xs n → R (.ok (.ret .none)) s') →
      codeAny (model prog w) A (.builtin "set.update.loop" ⟨[.ref S, .ref I], []⟩) R s := by
  have nw : S ∉ wr := fun z => out (W.sub _ z)
  intro d
  induction d with
  | zero =>
    intro i s e le st sa fin
    obtain rfl : i = n := by omega
    refine codeAny_builtin PyProof.Rows.F.entry_set_update_loop ?_
    rw [Around.under_plainId PyProof.Rows.F.plain_set_update_loop _]; show wpAny _ A.in1 (pyNext (.ref I) >>= _) _ _ s
    exact wpAny_bind (W.done s _ _ st fun s' m => (show wpAny _ A.in1 (ret Value.none) _ _ s' from wpAny_pure (fin s' (m.mono fun b hb => List.mem_cons_of_mem _ hb) (sa.move fun o ho => m.heap S o nw ho))))
  | succ d ih =>
    intro i s e le st sa fin
    have lt : i < n := by omega
    refine codeAny_builtin PyProof.Rows.F.entry_set_update_loop ?_
    rw [Around.under_plainId PyProof.Rows.F.plain_set_update_loop _]; show wpAny _ A.in1 (pyNext (.ref I) >>= _) _ _ s
    refine wpAny_bind (W.item i s _ _ lt st fun v s' pv st' m => ?_)
    obtain ⟨x, t, hx, rfl⟩ := are i v pv
    show wpAny _ A.in1 (holding [Value.str x t] (setAdd S (.str x t)) >>= _) _ _ s'
    refine wpAny_bind (wpAny_holding (set_moreD (by omega) hx (sa.move fun o ho => m.heap S o nw ho) fun b h' tk le2 sb sa' => ?_))
    have keep : ∀ b o, b ≠ S → s'.heap.get? b = some o → h'.get? b = some o := fun b o nb ho => by rw [sb.2 b nb]; exact ho
    refine wpAny_pure ⟨plainId_quiet PyProof.Rows.F.plain_set_update_loop _, ih (i + 1) _ (by omega) lt (W.frame _ s' _ _ st' le2 fun b hb o ho => keep b o (fun z => out (z ▸ hb)) ho) sa' fun s2 m2 sa2 => ?_⟩
    exact fin s2 (Moved.trans W.gtrans ((m.mono fun b hb => List.mem_cons_of_mem _ hb).then_heap le2 fun b o hb ho => keep b o (fun z => hb (z ▸ List.mem_cons_self)) ho) m2) sa2
theorem set_initD (tp : Bool) {s : Shared} {E : Value → Shared → Prop} {l : Addr} {items : Array Value} {xs : List Str} (hd : A.handled = none) (src : IsA tp s.heap l items) (are : StrsAre items.toList xs) (few : xs.length + 1 < scanBound)
    {led : Bool} {ne : Obj} (hN : ({ cls := .type "set", dict := none, data := .set #[] 0 (.fresh 0 0 led) } : Obj) = ne) :
    wpAny (model prog w) A.in1.in1 (Builtin.«set.__init__» ⟨[.ref s.heap.objs.size, .ref l], []⟩)
      (fun z s' => match z with
        | .done f => wants (fun r s2 => r = .none ∧ ∃ h' tk, s2 = { s with heap := h', toks := tk } ∧ SetAtD prog w h' s.heap.objs.size xs xs.length ∧ ∀ b o, s.heap.get? b = some o → h'.get? b = some o) E (.ok f) s'
        | .again c' => c'.quiet = true ∧ codeAny (model prog w) A.in1 c' (wants (fun r s2 => r = .none ∧ ∃ h' tk, s2 = { s with heap := h', toks := tk } ∧ SetAtD prog w h' s.heap.objs.size xs xs.length ∧ ∀ b o, s.heap.get? b = some o → h'.get? b = some o) E) s')
      (fun e s' => wants (fun r s2 => r = .none ∧ ∃ h' tk, s2 = { s with heap := h', toks := tk } ∧ SetAtD prog w h' s.heap.objs.size xs xs.length ∧ ∀ b o, s.heap.get? b = some o → h'.get? b = some o) E (.error e) s') { s with heap := s.heap.push ne } := by
  have ln : xs.length = items.size := by rw [← StrsAre.len_eq are, Array.length_toList]
  subst hN
  cases tp with
  | false =>
    obtain ⟨⟨oc, od, odt, os⟩, ho, hc, m, hm⟩ := id src
    simp only at hc hm
    subst hc hm
    have ho' := Heap.get?_push_of_some { cls := .type "set", dict := none, data := .set #[] 0 (.fresh 0 0 led) } ho
    have src' : (s.heap.push { cls := .type "set", dict := none, data := .set #[] 0 (.fresh 0 0 led) }).IsList l items := ⟨_, ho', rfl, m, rfl⟩
    have e1 := PySem.F.sub_list_set; have e2 := PySem.F.sub_list_frozenset; have e3 : (Value.type "list" == Value.type "dict") = false := by decide
    unfold Builtin.«set.__init__» noKeywords Builtin.Frozenset.updateFrom; generalize hPI : pyIter = PI
    wp_walk; subst hPI
    refine wpAny_pyIter_list src' (wpAny_bind (wpAny_runValue ?_))
    have lS : l < s.heap.objs.size := Heap.lt_size ho
    have sz : (s.heap.push { cls := .type "set", dict := none, data := .set #[] 0 (.fresh 0 0 led) }).objs.size = s.heap.objs.size + 1 := Heap.size_push ..
    have hd3 : A.in1.in1.in1.handled = none := by simp [hd]
    refine set_allD ((Walks.list hd3 _ l (by rw [sz]; exact Nat.ne_of_lt (Nat.lt_succ_of_lt lS)) items).toS) (by rw [sz]; simp only [List.mem_cons, List.not_mem_nil, or_false, not_or]; exact ⟨Nat.ne_of_lt (Nat.lt_succ_self _), Nat.ne_of_gt lS⟩) ln (by omega) (fun i v hv => strs_get are (by rw [Array.getElem?_toList]; exact hv)) (items.size - 0) 0 _ rfl (Nat.zero_le _)
      ⟨⟨_, Heap.get?_push_size _ rfl, rfl, rfl⟩, src'.push _⟩ (SetOf_congr ((setObjOf_fresh (knd := PySem.strKind prog w) led).setOf (Heap.get?_push_of_some _ (Heap.get?_push_size _ rfl)) (by unfold scanBound; omega)) (fun _ => rfl) rfl) fun s' mv sa => ?_
    obtain ⟨h', g', d', tk', o'⟩ := s'
    obtain rfl : g' = s.gens := mv.gens
    obtain rfl : d' = s.drawn := mv.drawn
    obtain rfl : o' = s.os := mv.os
    refine wpAny_pure (show wpAny _ _ (ret Value.none) _ _ _ from wpAny_pure ⟨rfl, h', tk', rfl, by rw [ln]; exact sa, fun b o hb => ?_⟩)
    have lb := Heap.lt_size hb
    exact mv.heap b o (by rw [sz]; simp only [List.mem_cons, List.not_mem_nil, or_false, not_or]; exact ⟨Nat.ne_of_lt lb, Nat.ne_of_lt (Nat.lt_succ_of_lt lb)⟩) (Heap.get?_push_of_some _ (Heap.get?_push_of_some _ hb))
  | true =>
    obtain ⟨⟨oc, od, odt, os⟩, ho, hc, m, hm⟩ := id src
    simp only at hc hm
    subst hc hm
    have ho' := Heap.get?_push_of_some { cls := .type "set", dict := none, data := .set #[] 0 (.fresh 0 0 led) } ho
    have src' : (s.heap.push { cls := .type "set", dict := none, data := .set #[] 0 (.fresh 0 0 led) }).IsTuple l items := ⟨_, ho', rfl, m, rfl⟩
    have e1 := PySem.F.sub_tuple_set; have e2 := PySem.F.sub_tuple_frozenset; have e3 : (Value.type "tuple" == Value.type "dict") = false := by decide
    unfold Builtin.«set.__init__» noKeywords Builtin.Frozenset.updateFrom; generalize hPI : pyIter = PI
    wp_walk; subst hPI
    refine wpAny_pyIter_tuple src' (wpAny_bind (wpAny_runValue ?_))
    have lS : l < s.heap.objs.size := Heap.lt_size ho
    have sz : (s.heap.push { cls := .type "set", dict := none, data := .set #[] 0 (.fresh 0 0 led) }).objs.size = s.heap.objs.size + 1 := Heap.size_push ..
    have hd3 : A.in1.in1.in1.handled = none := by simp [hd]
    refine set_allD ((Walks.tuple hd3 _ l (by rw [sz]; exact Nat.ne_of_lt (Nat.lt_succ_of_lt lS)) items).toS) (by rw [sz]; simp only [List.mem_cons, List.not_mem_nil, or_false, not_or]; exact ⟨Nat.ne_of_lt (Nat.lt_succ_self _), Nat.ne_of_gt lS⟩) ln (by omega) (fun i v hv => strs_get are (by rw [Array.getElem?_toList]; exact hv)) (items.size - 0) 0 _ rfl (Nat.zero_le _)
      ⟨⟨_, Heap.get?_push_size _ rfl, rfl, rfl⟩, src'.push _⟩ (SetOf_congr ((setObjOf_fresh (knd := PySem.strKind prog w) led).setOf (Heap.get?_push_of_some _ (Heap.get?_push_size _ rfl)) (by unfold scanBound; omega)) (fun _ => rfl) rfl) fun s' mv sa => ?_
    obtain ⟨h', g', d', tk', o'⟩ := s'
    obtain rfl : g' = s.gens := mv.gens
    obtain rfl : d' = s.drawn := mv.drawn
    obtain rfl : o' = s.os := mv.os
    refine wpAny_pure (show wpAny _ _ (ret Value.none) _ _ _ from wpAny_pure ⟨rfl, h', tk', rfl, by rw [ln]; exact sa, fun b o hb => ?_⟩)
    have lb := Heap.lt_size hb
    exact mv.heap b o (by rw [sz]; simp only [List.mem_cons, List.not_mem_nil, or_false, not_or]; exact ⟨Nat.ne_of_lt lb, Nat.ne_of_lt (Nat.lt_succ_of_lt lb)⟩) (Heap.get?_push_of_some _ (Heap.get?_push_of_some _ hb))
theorem call_set_textsD (tp : Bool) {s : Shared} {E : Value → Shared → Prop} {l : Addr} {items : Array Value} {xs : List Str} {Q : Value → Shared → Prop} (hd : A.handled = none) (src : IsA tp s.heap l items) (are : StrsAre items.toList xs) (few : xs.length + 1 < scanBound)
    (q : ∀ (h' : Heap) (tk : Nat), SetAtD prog w h' s.heap.objs.size xs xs.length → (∀ b o, s.heap.get? b = some o → h'.get? b = some o) → Q (.ref s.heap.objs.size) { s with heap := h', toks := tk }) :
    wpAny (model prog w) A (call (.type "set") [.ref l]) Q E s := by
  obtain ⟨c, tl, hmro⟩ := PySem.F.called_set.mro
  have k1 := PySem.F.called_set.made; have k2 := PySem.F.called_set.sub; have k3 := PySem.F.called_set.notType; have k4 := PySem.F.called_set.canCreate
  have k5 := PySem.F.typeCall_set_1 (.ref l)
  refine wpAny_call (codeAny_of_tree (show wpAny _ _ (callAny (.type "set") _) _ _ _ from ?_))
  refine wpAny_pure ⟨Code.quiet_builtin _ (by decide +kernel), codeAny_builtin PySem.F.entry_type_call ?_⟩
  rw [Around.under_plain (weight_type_call_type "set" [.ref l] []) rfl]; repeat (any_goals (first | assumption | wp_step))
  refine codeAny_mono (code_set_new_1 (.ref l) (E := E) (Q₁ := fun ob s1 => ∃ led : Bool, ob = .ref s.heap.objs.size ∧ s1 = { s with heap := s.heap.push { cls := .type "set", dict := none, data := .set #[] 0 (.fresh 0 0 led) } }) fun led => ⟨led, rfl, rfl⟩) fun r s1 hr => ?_
  rcases r with e | fl
  · exact hr
  cases fl with
  | ret ob =>
    obtain ⟨led, rfl, rfl⟩ := hr
    generalize hN : ({ cls := .type "set", dict := none, data := .set #[] 0 (.fresh 0 0 led) } : Obj) = ne
    have eN : (s.heap.push ne).get? s.heap.objs.size = some ne := Heap.get?_push_size _ (by subst hN; rfl)
    have tN : Shared.TypeIs { s with heap := s.heap.push ne } (.ref s.heap.objs.size) "set" := ⟨_, eN, by subst hN; rfl⟩
    have k6 := PySem.F.called_set.init.lookup; have k7 := PySem.F.called_set.init.bind (.ref s.heap.objs.size)
    repeat (any_goals (first | assumption | wp_step))
    refine codeAny_mono (codeAny_call_builtin (R := wants (fun r s2 => r = .none ∧ ∃ h' tk, s2 = { s with heap := h', toks := tk } ∧ SetAtD prog w h' s.heap.objs.size xs xs.length ∧ ∀ b o, s.heap.get? b = some o → h'.get? b = some o) E) PySem.F.called_set.init.plain PySem.F.entry_set_init (check_set_init_1 tN ?_)) fun r2 s2 hr2 => ?_
    · exact set_initD tp hd src are few hN
    · rcases r2 with e | f2
      · exact hr2
      cases f2 with
      | ret r =>
        obtain ⟨rfl, h', tk, rfl, sa, keep⟩ := hr2
        repeat (any_goals (first | assumption | wp_step))
        exact q h' tk sa keep
      | _ => exact hr2.elim
  | _ => exact hr.elim
end
section
variable {X : Cx}
/-- len(set(xs)) of unlike texts -/
def tLenTxtD (K : PySem.W.Frag) (ta : TE) : TE := fun σ H Q => ta σ H fun x H1 => ∃ (l : Addr) (xs : List Str), x = .ref l ∧ (SqL K H1 l (xs.map V.str) ∨ SqT K H1 l (xs.map V.str)) ∧ xs.length ≤ 1000 ∧ Q (.int (cntD xs xs.length : Nat)) H1
theorem pe_lenTxtD {a : Expr} {ta : TE} {p p2 q pos : Pos} (hc : X.calm = true) (g1 : Gl X "len") (m1 : X.mg "len" = none) (g2 : Gl X "set") (m2 : X.mg "set" = none) (ha : PE X a ta)
    (n1 : starEach [a] X.env = (false, eval a X.env) :: starEach [] X.env := by rfl) : PE X (.Call (.Name "len" p) [.Call (.Name "set" p2) [a] [] q] [] pos) (tLenTxtD X.K ta) := by
  refine ⟨fun pins s σ H Q I h => Call_ (ld_blt I g1 m1 boot_len (callWith_builtin1 (args_cons (Call_ (ld_blt I g2 m2 boot_set (callWith_type1 (args_cons (thn (ha.run pins s σ H _ I h) fun v s1 ⟨x, H1, J, r1, want⟩ => args_nil ?_) n1) n1 rfl))) rfl) rfl rfl))⟩
  obtain ⟨l, xs, rfl, sq, few, want⟩ := want
  obtain rfl : v = Value.ref l := r1
  have cle := cntD_le xs xs.length
  have few2 : xs.length + 1 < scanBound := by unfold scanBound; omega
  have fin : ∀ (h' : Heap) (tk : Nat), SetAtD X.prog X.w h' s1.heap.objs.size xs xs.length → (∀ b o, s1.heap.get? b = some o → h'.get? b = some o) →
      wpAny (model X.prog X.w) X.A (spliced (backTo pos (starEach [] X.env))) (fun vs s2 => wpAny (model X.prog X.w) X.A (call (.builtin "len") (Value.ref s1.heap.objs.size :: vs)) (EP X pins σ Q) X.xe s2) X.xe { s1 with heap := h', toks := tk } := fun h' tk sa keep => args_nil (by
    obtain ⟨o, es, ep, t, ho, hex, hdt, _, _, _, hf, hn⟩ := sa
    exact call_len_set ho hex hdt hf (by rw [hn]; omega) ⟨.int (cntD xs xs.length : Nat), H1, (J.kept (t' := tk) keep).tok _, ⟨_, by rw [hn]⟩, want⟩)
  rcases sq with sq | sq
  · obtain ⟨its, rs, pl, _⟩ := J.list sq
    exact call_set_textsD false (J.ok.hd hc) pl.isList (by simpa using strs_vals rs) few2 fin
  · obtain ⟨its, rs, pl, _⟩ := J.tuple sq
    exact call_set_textsD true (J.ok.hd hc) (show s1.heap.IsTuple l its.toArray from pl) (by simpa using strs_vals rs) few2 fin
end
end LL
namespace LL
open PySem PySem.Spec PyProof.Rows L2
/-! ### methods called with keywords -/
def tMethN (C : Addr) (m : Str) (n k : Nat) (sp : Sp) (gV : List V → List V → List V) (E : L2.St → XK) (to : TE) (t tk : TA) : TE := fun σ H Q => to σ H fun x H1 => ∃ a dx fs, x = .ref a ∧ H1 a = some (.ins C dx fs) ∧ fs.lookup m = none ∧
  t σ H1 fun vs H2 => tk σ H2 fun zs H3 => vs.length = n ∧ zs.length = k ∧ sp (gV (x :: vs) zs) H3 Q (E σ)
section
variable {X : Cx} {CX : CXT} {k n : Nat} {f C : Addr} {fd : FuncData} {ps ks : List Str} {sp : Sp} {E : L2.St → XK} {m : Str} {p pos apos : Pos} {o e : Expr} {es : List Expr} {kws : List Keyword} {to : TE} {t tk : TA} {g : List Value → List Value → List Value} {gV : List V → List V → List V}
theorem run_fnNS {pins : List (Addr × Obj)} {σ : L2.St} {H : Hp} {s : Shared} {Q : VK} {us ws : List Value} {vs zs : List V} (F : FnOk X.prog X.w X.K X.mg X.base CX k f fd ps sp) (hr : Room k X.A) (hb : KBn X.K fd ps n ks g gV) (hx : PassesAt CX X σ (E σ))
    (I : Inv X pins σ H s) (r : Vals vs us) (rz : Vals zs ws) (l1 : vs.length = n) (l2 : zs.length = ks.length) (h : sp (gV vs zs) H Q (E σ)) : wpAny (model X.prog X.w) X.A (call (.ref f) us (ks.zip ws)) (EP X pins σ Q) X.xe s := by
  have r2 := hb.rel r rz
  refine wpAny_call (codeAny_mono (F.run X.A X.stack s H ⟨us, ks.zip ws⟩ (g us ws) (gV vs zs) Q (E σ) hr I.env0 (hb.to s us ws I.kIn (r.length.symm.trans l1) (rz.length.symm.trans l2)) r2 h) fun r s' hq => ?_)
  cases r with
  | error e => exact hx pins H s e s' I hq
  | ok fl =>
    cases fl with
    | ret u => exact I.after hq
    | next => exact False.elim hq
    | brk => exact False.elim hq
    | cont => exact False.elim hq
theorem pe_methN {pl : Sem Bool} (he : PE X o to) (c : Cls X.K C) (hm : Meth X.K C m f) (F : FnOk X.prog X.w X.K X.mg X.base CX k f fd ps sp) (hr : Room k X.A) (hb : KBn X.K fd ps (n + 1) ks g gV) (hx : ∀ σ, PassesAt CX X σ (E σ)) (ha : PA X (e :: es) t) (hkw : PK X kws tk)
    (hall : (backToKw pos (keywordEach kws X.env)).all (·.1.isSome) = true := by rfl) (hks : (backToKw pos (keywordEach kws X.env)).filterMap (·.1) = ks := by rfl)
    (hst : starEach (e :: es) X.env = (false, eval e X.env) :: starEach es X.env := by rfl)
    (hpl : ((backTo pos (starEach (e :: es) X.env)).any (·.1) || (backToKw pos (keywordEach kws X.env)).any (·.1.isNone)) = false := by rfl)
    (ht : eval (.Call (.Attribute o m apos) (e :: es) kws pos) X.env = (do
      let ov ← eval o X.env
      standAt apos.atName
      let (f, first) ← holding [ov] (getMethod ov m pl)
      callWith pos f first (backTo pos (starEach (e :: es) X.env)) (backToKw pos (keywordEach kws X.env))) := by rfl) :
    PE X (.Call (.Attribute o m apos) (e :: es) kws pos) (tMethN C m n ks.length sp gV E to t tk) := by
  refine ⟨fun pins s σ H Q I h => ?_⟩
  refine PySem.W.methodCall_KW (pl := pl) (thn (he.run pins s σ H _ I h) fun u s1 ⟨x, H1, I1, rx, a, dx, fs, ex, ea, l, q⟩ => ?_) ht
  subst ex
  obtain rfl : u = Value.ref a := rx
  refine getmeth_ok I1 ea c hm l ?_
  refine PySem.W.callWith_KW (first := [.ref a]) (h₀ := X.base) I.ok.mod.kin hm.kp hall (thn (ha.run pos pins s1 σ H1 _ I1 q) fun us s2 ⟨vs, H2, I2, r, q2⟩ => ?_) hpl hst
  refine thn (hkw.run pos pins s2 σ H2 _ I2 q2) fun ws s3 ⟨zs, H3, I3, rz, l1, l2, q3⟩ => ⟨I3.kIn, ?_⟩
  rw [hks]
  exact run_fnNS (us := .ref a :: us) (vs := .ref a :: vs) F hr hb (hx σ) I3 (.cons rfl r) rz (congrArg Nat.succ l1) l2 q3
end
end LL
namespace LL
/-! ### the program's tidy boxes: longest runs of days of one mask -/
theorem Chn.row {R : Nat → List Pr} {b e : Nat} {s : Strip} {ss : List Strip} (h : Chn R b (s :: ss) e) : s.2.2 = R b := by
  obtain ⟨h1, h2, h3, _, _⟩ := h
  rw [h1, h3 s.1 (Nat.le_refl _) h2]
/-- strips are told by their rows alone -/
theorem Chn.uniq {R : Nat → List Pr} : ∀ {ss tt : List Strip} {b e : Nat}, Chn R b ss e → Chn R b tt e → ss = tt
  | [], [], _, _, _, _ => rfl
  | [], t :: tt, b, e, h, g => by
    have h : b = e := h
    obtain ⟨g1, g2, _, _, g5⟩ := g
    have := g5.le
    omega
  | s :: ss, [], b, e, h, g => by
    have g : b = e := g
    obtain ⟨h1, h2, _, _, h5⟩ := h
    have := h5.le
    omega
  | s :: ss, t :: tt, b, e, h, g => by
    have rs := h.row
    have rt := g.row
    obtain ⟨h1, h2, h3, h4, h5⟩ := h
    obtain ⟨g1, g2, g3, g4, g5⟩ := g
    have no : ∀ {s t : Strip} {ss : List Strip}, s.2.2 = R b → t.2.2 = R b → t.1 = b → s.1 = b → s.1 < s.2.1 → (∀ d, t.1 ≤ d → d < t.2.1 → R d = t.2.2) → t.2.1 ≤ e → (∀ u, ss.head? = some u → u.2.2 ≠ s.2.2) → Chn R s.2.1 ss e → ¬ s.2.1 < t.2.1 := by
      intro s t ss es et t1 s1 s2 tr te nx ch l
      cases ss with
      | nil =>
        have ch : s.2.1 = e := ch
        omega
      | cons u ss =>
        have ru := ch.row
        have e1 := tr s.2.1 (by omega) l
        exact nx u rfl (by rw [ru, e1, et, es])
    have le1 := h5.le
    have le2 := g5.le
    have e2 : s.2.1 = t.2.1 := by
      have a := no (s := s) (t := t) rs rt g1.symm h1.symm h2 g3 le2 h4 h5
      have b := no (s := t) (t := s) rt rs h1.symm g1.symm g2 h3 le1 g4 g5
      omega
    have est : s = t := by
      obtain ⟨x, y, r⟩ := s
      obtain ⟨x', y', r'⟩ := t
      have a : b = x := h1
      have b' : b = x' := g1
      have c : y = y' := e2
      have d : r = r' := by rw [show r = R b from rs, show r' = R b from rt]
      rw [← a, ← b', c, d]
    rw [est]
    rw [e2] at h5
    rw [h5.uniq g5]
/-- the runs of places at which a list has equal things -/
def Alk (m : Nat → Nat) : Nat → List Pr → Nat → Prop
  | b, [], e => b = e
  | b, z :: r, e => b = z.1 ∧ z.1 < z.2 ∧ (∀ d, z.1 ≤ d → d < z.2 → m d = m z.1) ∧ (∀ y, r.head? = some y → m y.1 ≠ m z.1) ∧ Alk m z.2 r e
theorem Alk.le {m : Nat → Nat} : ∀ {r : List Pr} {b e : Nat}, Alk m b r e → b ≤ e
  | [], _, _, h => Nat.le_of_eq h
  | z :: r, b, e, ⟨h1, h2, _, _, h5⟩ => by
    have := h5.le
    omega
theorem Alk.snoc {m : Nat → Nat} : ∀ {r : List Pr} {b c e : Nat}, Alk m b r c → c < e → (∀ d, c ≤ d → d < e → m d = m c) → (∀ z, r.getLast? = some z → m c ≠ m z.1) → Alk m b (r ++ [(c, e)]) e
  | [], b, c, e, h, l, q, _ => by
    have h : b = c := h
    subst h
    exact ⟨rfl, l, q, (fun y hy => nomatch hy), rfl⟩
  | z :: r, b, c, e, ⟨h1, h2, h3, h4, h5⟩, l, q, n => by
    refine ⟨h1, h2, h3, fun y hy => ?_, h5.snoc l q fun y hy => n y ?_⟩
    · cases r with
      | nil =>
        obtain rfl : (c, e) = y := Option.some.inj hy
        exact n z rfl
      | cons x r => exact h4 y hy
    · cases r with
      | nil => cases hy
      | cons x r => exact hy
/-- as strips, where unlike things have unlike rows -/
theorem Alk.chn {m : Nat → Nat} {R : Nat → List Pr} {top : Nat} (same : ∀ d u, d < top → u < top → (m d = m u ↔ R d = R u)) : ∀ {r : List Pr} {b e : Nat}, e ≤ top → Alk m b r e → Chn R b (r.map fun z => (z.1, z.2, R z.1)) e
  | [], _, _, _, h => h
  | z :: r, b, e, le, ⟨h1, h2, h3, h4, h5⟩ => by
    have l2 := h5.le
    refine ⟨h1, h2, fun d l u => (same d z.1 (by have u : d < z.2 := u; omega) (by omega)).mp (h3 d l u), fun t ht => ?_, Alk.chn same le h5⟩
    cases r with
    | nil => cases ht
    | cons y r =>
      obtain rfl : (y.1, y.2, R y.1) = t := Option.some.inj ht
      obtain ⟨g1, g2, _, _, g5⟩ := h5
      have := g5.le
      exact fun z' => h4 y rfl ((same y.1 z.1 (by omega) (by omega)).mpr z')
theorem Alk.strips {m : Nat → Nat} {R : Nat → List Pr} {D : Nat} (same : ∀ d u, d < D → u < D → (m d = m u ↔ R d = R u)) {r : List Pr} (h : Alk m 0 r D) : (r.map fun z => (z.1, z.2, R z.1)) = stripsS R D :=
  (h.chn same (Nat.le_refl D)).uniq (strips_ok R D)
/-- a mask below 2 ** T and the row of its numbers tell one another -/
theorem mask_row {m n T : Nat} (hT : T ≤ 400) (hm : m < 2 ^ T) (hn : n < 2 ^ T) : m = n ↔ rowS (fun t => m.testBit t) T = rowS (fun t => n.testBit t) T := by
  constructor
  · rintro rfl
    rfl
  · intro e
    apply Nat.eq_of_testBit_eq
    intro t
    by_cases l : t < T
    · have a := (rowS_ok (fun t => m.testBit t) T hT).2.1 t
      have b := (rowS_ok (fun t => n.testBit t) T hT).2.1 t
      rw [e, b] at a
      simpa [l] using a.symm
    · have p : 2 ^ T ≤ 2 ^ t := Nat.pow_le_pow_right (by decide) (by omega)
      rw [Nat.testBit_lt_two_pow (Nat.lt_of_lt_of_le hm p), Nat.testBit_lt_two_pow (Nat.lt_of_lt_of_le hn p)]
/-- the boxes of one key's row of masks -/
def rowBoxes {κ : Type} (k : κ) (m : Nat → Nat) (T : Nat) (r : List Pr) : List (BoxT κ) := r.flatMap fun z => (rowS (fun t => (m z.1).testBit t) T).map fun y => (k, z.1, z.2, y.1, y.2)
theorem rowBoxes_tidy {κ : Type} (k : κ) {m : Nat → Nat} {D T : Nat} (hT : T ≤ 400) (top : ∀ d, d < D → m d < 2 ^ T) {r : List Pr} (h : Alk m 0 r D) : rowBoxes k m T r = boxesK k (stripsS (fun d => rowS (fun t => (m d).testBit t) T) D) := by
  have e := h.strips (R := fun d => rowS (fun t => (m d).testBit t) T) fun d u hd hu => mask_row hT (top d hd) (top u hu)
  rw [← e]
  unfold rowBoxes boxesK
  rw [List.flatMap_map]
/-- the boxes of a whole table: the tidy boxes of its points -/
theorem table_tidy {κ : Type} [DecidableEq κ] (m : κ → Nat → Nat) (P : κ → Nat → Nat → Bool) {D T : Nat} (hT : T ≤ 400) (keys : List κ) (top : ∀ k ∈ keys, ∀ d, d < D → m k d < 2 ^ T) (pts : ∀ k ∈ keys, ∀ d t, d < D → t < T → (m k d).testBit t = P k d t)
    (r : κ → List Pr) (h : ∀ k ∈ keys, Alk (m k) 0 (r k) D) : (keys.flatMap fun k => rowBoxes k (m k) T (r k)) = tidyB P D T keys := by
  unfold tidyB
  induction keys with
  | nil => rfl
  | cons k ks ih =>
    rw [List.flatMap_cons, List.flatMap_cons, ih (fun y hy => top y (List.mem_cons_of_mem _ hy)) (fun y hy => pts y (List.mem_cons_of_mem _ hy)) (fun y hy => h y (List.mem_cons_of_mem _ hy)), rowBoxes_tidy k hT (top k List.mem_cons_self) (h k List.mem_cons_self)]
    congr 2
    have : ∀ n, n ≤ D → stripsS (fun d => rowS (fun t => (m k d).testBit t) T) n = stripsS (fun d => rowS (P k d) T) n := by
      intro n
      induction n with
      | zero => exact fun _ => rfl
      | succ n ihn =>
        intro l
        have e : rowS (fun t => (m k n).testBit t) T = rowS (P k n) T := rowS_congr fun t ht => pts k List.mem_cons_self n t (by omega) ht
        simp only [stripsS, ihn (by omega), e]
    exact this D (Nat.le_refl D)
end LL
namespace LL
open PySem PySem.Spec PyProof.Rows L2
def ownW : List Str := ["all", "key", "days", "turns", "last", "ends", "now", "both", "either", "but", "let", "bar", "frame", "find", "known", "ask"]
/-- the words that are no names -/
structure Ow (K : PySem.W.Frag) (mg : Str → Option Value) where
  a : Addr
  g : mg "OWN_WORDS" = some (.ref a)
  words : ∀ H : Hp, SqT K H a (ownW.map V.str)
def top (i : Nat) : Stmt := PySem.Challenge.pw_leastlore_k13_frames_refused.main.body.getD i (.Pass ⟨0, 0, 0, 0⟩)
abbrev scwall_st : Stmt := top 0
abbrev scwall_N : List Str := ["k"]
theorem scwall : FnScope scwall_N ["k"] (defScope scwall_st) := ⟨rfl, rfl, rfl, by decide +kernel, rfl, by decide +kernel, by decide +kernel⟩
abbrev sciswhole_st : Stmt := top 9
abbrev sciswhole_N : List Str := ["thing"]
theorem sciswhole : FnScope sciswhole_N ["thing"] (defScope sciswhole_st) := ⟨rfl, rfl, rfl, by decide +kernel, rfl, by decide +kernel, by decide +kernel⟩
abbrev sciswithin_st : Stmt := top 10
abbrev sciswithin_N : List Str := ["thing", "low", "high"]
theorem sciswithin : FnScope sciswithin_N ["thing", "low", "high"] (defScope sciswithin_st) := ⟨rfl, rfl, rfl, by decide +kernel, rfl, by decide +kernel, by decide +kernel⟩
abbrev sciswrittenof_st : Stmt := top 11
abbrev sciswrittenof_N : List Str := ["thing", "signs", "most"]
theorem sciswrittenof : FnScope sciswrittenof_N ["thing", "signs", "most"] (defScope sciswrittenof_st) := ⟨rfl, rfl, rfl, by decide +kernel, rfl, by decide +kernel, by decide +kernel⟩
abbrev scisname_st : Stmt := top 12
abbrev scisname_N : List Str := ["thing"]
theorem scisname : FnScope scisname_N ["thing"] (defScope scisname_st) := ⟨rfl, rfl, rfl, by decide +kernel, rfl, by decide +kernel, by decide +kernel⟩
abbrev scarekeys_st : Stmt := top 18
abbrev scarekeys_N : List Str := ["thing"]
theorem scarekeys : FnScope scarekeys_N ["thing"] (defScope scarekeys_st) := ⟨rfl, rfl, rfl, by decide +kernel, rfl, by decide +kernel, by decide +kernel⟩
abbrev scframeof_st : Stmt := top 19
abbrev scframeof_N : List Str := ["told", "keys", "days", "turns"]
theorem scframeof : FnScope scframeof_N ["told"] (defScope scframeof_st) := ⟨rfl, rfl, rfl, by decide +kernel, rfl, by decide +kernel, by decide +kernel⟩
abbrev scLcellat_st : Stmt := top 21
abbrev scLcellat_N : List Str := ["_law_script", "_law_k"]
theorem scLcellat : FnScope scLcellat_N ["_law_script", "_law_k"] (defScope scLcellat_st) := ⟨rfl, rfl, rfl, by decide +kernel, rfl, by decide +kernel, by decide +kernel⟩
abbrev scLbox_st : Stmt := top 22
abbrev scLbox_N : List Str := ["_law_cell"]
theorem scLbox : FnScope scLbox_N ["_law_cell"] (defScope scLbox_st) := ⟨rfl, rfl, rfl, by decide +kernel, rfl, by decide +kernel, by decide +kernel⟩
abbrev scLtake_st : Stmt := top 23
abbrev scLtake_N : List Str := ["_law_box_here", "_law_many", "_law_number"]
theorem scLtake : FnScope scLtake_N ["_law_box_here", "_law_many"] (defScope scLtake_st) := ⟨rfl, rfl, rfl, by decide +kernel, rfl, by decide +kernel, by decide +kernel⟩
abbrev scLkeys_st : Stmt := top 24
abbrev scLkeys_N : List Str := ["_law_box_here", "_law_good", "_law_bad", "_law_some"]
theorem scLkeys : FnScope scLkeys_N ["_law_box_here"] (defScope scLkeys_st) := ⟨rfl, rfl, rfl, by decide +kernel, rfl, by decide +kernel, by decide +kernel⟩
abbrev scLspoiltkeys_st : Stmt := top 25
abbrev scLspoiltkeys_N : List Str := ["_law_box_here", "_law_letters", "_law_first", "_law_size", "_law_tail", "_law_signs", "_law_k", "_law_keys_here", "_law_sign", "_law_at", "_law_words", "_law_own", "_law_one", "_law_some", "_law_way", "_law_other", "_law_more"]
theorem scLspoiltkeys : FnScope scLspoiltkeys_N ["_law_box_here"] (defScope scLspoiltkeys_st) := ⟨rfl, rfl, rfl, by decide +kernel, rfl, by decide +kernel, by decide +kernel⟩
abbrev scLcount_st : Stmt := top 26
abbrev scLcount_N : List Str := ["_law_box_here"]
theorem scLcount : FnScope scLcount_N ["_law_box_here"] (defScope scLcount_st) := ⟨rfl, rfl, rfl, by decide +kernel, rfl, by decide +kernel, by decide +kernel⟩
abbrev scLtried_st : Stmt := top 27
abbrev scLtried_N : List Str := ["_law_way", "_law_keys_here", "_law_days", "_law_turns", "_law_told", "e"]
theorem scLtried : FnScope scLtried_N ["_law_way", "_law_keys_here", "_law_days", "_law_turns"] (defScope scLtried_st) := ⟨rfl, rfl, rfl, by decide +kernel, rfl, by decide +kernel, by decide +kernel⟩
abbrev scLkeyrefused_st : Stmt := top 28
abbrev scLkeyrefused_N : List Str := ["_law_frame", "_law_thing", "_law_told", "e"]
theorem scLkeyrefused : FnScope scLkeyrefused_N ["_law_frame", "_law_thing"] (defScope scLkeyrefused_st) := ⟨rfl, rfl, rfl, by decide +kernel, rfl, by decide +kernel, by decide +kernel⟩
abbrev scLtoldright_st : Stmt := top 29
abbrev scLtoldright_N : List Str := ["_law_box_here", "_law_keys_here", "_law_days", "_law_turns", "_law_told", "_law_some", "_law_thing"]
theorem scLtoldright : FnScope scLtoldright_N ["_law_box_here", "_law_keys_here", "_law_days", "_law_turns"] (defScope scLtoldright_st) := ⟨rfl, rfl, rfl, by decide +kernel, rfl, by decide +kernel, by decide +kernel⟩
abbrev sclaw_st : Stmt := top 30
abbrev sclaw_N : List Str := ["_law_script", "_law_k", "_law_box_here", "_law_things", "_law_bad", "_law_thing", "_law_good", "_law_keys_here", "_law_days", "_law_turns", "_law_kept", "_law_found", "_law_frame"]
theorem sclaw : FnScope sclaw_N ["_law_script"] (defScope sclaw_st) := ⟨rfl, rfl, rfl, by decide +kernel, rfl, by decide +kernel, by decide +kernel⟩
abbrev scNoFrameinit_st : Stmt := inClass (top 3) 0
abbrev scNoFrameinit_N : List Str := ["self", "found"]
theorem scNoFrameinit : FnScope scNoFrameinit_N ["self", "found"] (defScope scNoFrameinit_st) := ⟨rfl, rfl, rfl, by decide +kernel, rfl, by decide +kernel, by decide +kernel⟩
abbrev scNoKeyinit_st : Stmt := inClass (top 4) 0
abbrev scNoKeyinit_N : List Str := ["self", "found"]
theorem scNoKeyinit : FnScope scNoKeyinit_N ["self", "found"] (defScope scNoKeyinit_st) := ⟨rfl, rfl, rfl, by decide +kernel, rfl, by decide +kernel, by decide +kernel⟩
abbrev scFrameinit_st : Stmt := inClass (top 17) 0
abbrev scFrameinit_N : List Str := ["self", "keys", "days", "turns", "place", "key"]
theorem scFrameinit : FnScope scFrameinit_N ["self", "keys", "days", "turns"] (defScope scFrameinit_st) := ⟨rfl, rfl, rfl, by decide +kernel, rfl, by decide +kernel, by decide +kernel⟩
abbrev scFramekeynames_st : Stmt := inClass (top 17) 1
abbrev scFramekeynames_N : List Str := ["self"]
theorem scFramekeynames : FnScope scFramekeynames_N ["self"] (defScope scFramekeynames_st) := ⟨rfl, rfl, rfl, by decide +kernel, rfl, by decide +kernel, by decide +kernel⟩
abbrev scFramenow_st : Stmt := inClass (top 17) 2
abbrev scFramenow_N : List Str := ["self"]
theorem scFramenow : FnScope scFramenow_N ["self"] (defScope scFramenow_st) := ⟨rfl, rfl, rfl, by decide +kernel, rfl, by decide +kernel, by decide +kernel⟩
abbrev scFramehaskey_st : Stmt := inClass (top 17) 3
abbrev scFramehaskey_N : List Str := ["self", "thing"]
theorem scFramehaskey : FnScope scFramehaskey_N ["self", "thing"] (defScope scFramehaskey_st) := ⟨rfl, rfl, rfl, by decide +kernel, rfl, by decide +kernel, by decide +kernel⟩
abbrev scFrameplaceof_st : Stmt := inClass (top 17) 4
abbrev scFrameplaceof_N : List Str := ["self", "key"]
theorem scFrameplaceof : FnScope scFrameplaceof_N ["self", "key"] (defScope scFrameplaceof_st) := ⟨rfl, rfl, rfl, by decide +kernel, rfl, by decide +kernel, by decide +kernel⟩
abbrev scFrameispoint_st : Stmt := inClass (top 17) 5
abbrev scFrameispoint_N : List Str := ["self", "thing"]
theorem scFrameispoint : FnScope scFrameispoint_N ["self", "thing"] (defScope scFrameispoint_st) := ⟨rfl, rfl, rfl, by decide +kernel, rfl, by decide +kernel, by decide +kernel⟩
abbrev scFrametold_st : Stmt := inClass (top 17) 6
abbrev scFrametold_N : List Str := ["self"]
theorem scFrametold : FnScope scFrametold_N ["self"] (defScope scFrametold_st) := ⟨rfl, rfl, rfl, by decide +kernel, rfl, by decide +kernel, by decide +kernel⟩
/-- where the defs stand -/
structure Defs (K : PySem.W.Frag) (mg : Str → Option Value) where
  _wall : Dn K mg "_wall" scwall_st ["k"]
  is_whole : Dn K mg "is_whole" sciswhole_st ["thing"]
  is_within : Dn K mg "is_within" sciswithin_st ["thing", "low", "high"]
  is_written_of : Dn K mg "is_written_of" sciswrittenof_st ["thing", "signs", "most"]
  is_name : Dn K mg "is_name" scisname_st ["thing"]
  are_keys : Dn K mg "are_keys" scarekeys_st ["thing"]
  frame_of : Dn K mg "frame_of" scframeof_st ["told"]
  _law_cell_at : Dn K mg "_law_cell_at" scLcellat_st ["_law_script", "_law_k"]
  _law_box : Dn K mg "_law_box" scLbox_st ["_law_cell"]
  _law_take : Dn K mg "_law_take" scLtake_st ["_law_box_here", "_law_many"]
  _law_keys : Dn K mg "_law_keys" scLkeys_st ["_law_box_here"]
  _law_spoilt_keys : Dn K mg "_law_spoilt_keys" scLspoiltkeys_st ["_law_box_here"]
  _law_count : Dn K mg "_law_count" scLcount_st ["_law_box_here"]
  _law_tried : Dn K mg "_law_tried" scLtried_st ["_law_way", "_law_keys_here", "_law_days", "_law_turns"]
  _law_key_refused : Dn K mg "_law_key_refused" scLkeyrefused_st ["_law_frame", "_law_thing"]
  _law_told_right : Dn K mg "_law_told_right" scLtoldright_st ["_law_box_here", "_law_keys_here", "_law_days", "_law_turns"]
  law : Dn K mg "law" sclaw_st ["_law_script"]
  erNoFrame : ErC K mg "NoFrame" "found" scNoFrameinit_st
  erNoKey : ErC K mg "NoKey" "found" scNoKeyinit_st
  cFrame : Addr
  Frame___init__ : Mn K cFrame "__init__" "Frame.__init__" scFrameinit_st ["self", "keys", "days", "turns"]
  Frame_key_names : Mn K cFrame "key_names" "Frame.key_names" scFramekeynames_st ["self"]
  Frame_now : Mn K cFrame "now" "Frame.now" scFramenow_st ["self"]
  Frame_has_key : Mn K cFrame "has_key" "Frame.has_key" scFramehaskey_st ["self", "thing"]
  Frame_place_of : Mn K cFrame "place_of" "Frame.place_of" scFrameplaceof_st ["self", "key"]
  Frame_is_point : Mn K cFrame "is_point" "Frame.is_point" scFrameispoint_st ["self", "thing"]
  Frame_told : Mn K cFrame "told" "Frame.told" scFrametold_st ["self"]
  clFrame : Cls K cFrame
  mkFrame : Mk K cFrame Frame___init__.f
  g_Frame : mg "Frame" = some (.ref cFrame)
  n_days : NoAttr K cFrame "days"
  n_turns : NoAttr K cFrame "turns"
  n_places : NoAttr K cFrame "_places"
  ow : Ow K mg
  lore : ExN mg "LoreError"
  excNoFrame : ExcC K erNoFrame.C
  excNoKey : ExcC K erNoKey.C
  k_NoFrame_lore : PySem.W.kitOne K (.ref erNoFrame.C) (.ref lore.C) = some true
  x_NoFrame_lore : PySem.W.exmOne K (.ref erNoFrame.C) (.ref lore.C) = some true
  x_NoFrame_NoKey : PySem.W.exmOne K (.ref erNoFrame.C) (.ref erNoKey.C) = some false
  k_NoKey_lore : PySem.W.kitOne K (.ref erNoKey.C) (.ref lore.C) = some true
  x_NoKey_lore : PySem.W.exmOne K (.ref erNoKey.C) (.ref lore.C) = some true
  x_NoKey_NoFrame : PySem.W.exmOne K (.ref erNoKey.C) (.ref erNoFrame.C) = some false
/-- what else the names of the top hold -/
structure Tx (K : PySem.W.Frag) (mg : Str → Option Value) where
  b_all : mg "all" = none
  b_range : mg "range" = none
  b_isinstance : mg "isinstance" = none
  b_int : mg "int" = none
  b_len : mg "len" = none
  b_repr : mg "repr" = none
  b_tuple : mg "tuple" = none
  b_list : mg "list" = none
  b_max : mg "max" = none
  b_bool : mg "bool" = none
  b_str : mg "str" = none
  b_min : mg "min" = none
  b_enumerate : mg "enumerate" = none
  b_set : mg "set" = none
  t_LETTERS : Tok
  g_LETTERS : mg "LETTERS" = some (.str "abcdefghijklmnopqrstuvwxyz" t_LETTERS)
  t_MOST_IN_NAME : Tok
  g_MOST_IN_NAME : mg "MOST_IN_NAME" = some (.int 8 t_MOST_IN_NAME)
  t_MOST_KEYS : Tok
  g_MOST_KEYS : mg "MOST_KEYS" = some (.int 12 t_MOST_KEYS)
  t_MOST_DAYS : Tok
  g_MOST_DAYS : mg "MOST_DAYS" = some (.int 400 t_MOST_DAYS)
  t_MOST_TURNS : Tok
  g_MOST_TURNS : mg "MOST_TURNS" = some (.int 400 t_MOST_TURNS)
def tx_mk {K : PySem.W.Frag} {mg : Str → Option Value} {t_LETTERS t_MOST_IN_NAME t_MOST_KEYS t_MOST_DAYS t_MOST_TURNS : Tok} (b_all : mg "all" = none) (b_range : mg "range" = none) (b_isinstance : mg "isinstance" = none) (b_int : mg "int" = none) (b_len : mg "len" = none) (b_repr : mg "repr" = none) (b_tuple : mg "tuple" = none) (b_list : mg "list" = none) (b_max : mg "max" = none) (b_bool : mg "bool" = none) (b_str : mg "str" = none) (b_min : mg "min" = none) (b_enumerate : mg "enumerate" = none) (b_set : mg "set" = none)
    (g_LETTERS : mg "LETTERS" = some (.str "abcdefghijklmnopqrstuvwxyz" t_LETTERS)) (g_MOST_IN_NAME : mg "MOST_IN_NAME" = some (.int 8 t_MOST_IN_NAME)) (g_MOST_KEYS : mg "MOST_KEYS" = some (.int 12 t_MOST_KEYS)) (g_MOST_DAYS : mg "MOST_DAYS" = some (.int 400 t_MOST_DAYS)) (g_MOST_TURNS : mg "MOST_TURNS" = some (.int 400 t_MOST_TURNS)) : Tx K mg := ⟨b_all, b_range, b_isinstance, b_int, b_len, b_repr, b_tuple, b_list, b_max, b_bool, b_str, b_min, b_enumerate, b_set, t_LETTERS, g_LETTERS, t_MOST_IN_NAME, g_MOST_IN_NAME, t_MOST_KEYS, g_MOST_KEYS, t_MOST_DAYS, g_MOST_DAYS, t_MOST_TURNS, g_MOST_TURNS⟩
def short : V → Prop
  | .str z => z.length ≤ sizeLine
  | _ => True
theorem own_in (z : Str) : inV (.str z) (ownW.map V.str) = decide (z ∈ ownW) := by
  unfold inV
  rw [List.any_map]
  have e : ((fun y => eqV y (.str z)) ∘ V.str) = fun y : Str => y == z := rfl
  rw [e, Bool.eq_iff_iff, List.any_eq_true, decide_eq_true_eq]
  constructor
  · rintro ⟨y, hy, e⟩
    rw [← beq_iff_eq.mp e]
    exact hy
  · exact fun h => ⟨z, h, beq_iff_eq.mpr rfl⟩
def retE : Stmt → Expr
  | .Return (some e) _ => e
  | _ => .Constant .none 0 ⟨0, 0, 0, 0⟩
def genSc : Expr → Scope
  | .Call _ [.GeneratorExp _ _ sc _] _ _ => sc
  | _ => { kind := .function, names := [], isGenerator := false, isCoroutine := false }
abbrev gsc : Scope := genSc (retE ((defBody sciswrittenof_st).getD 1 (.Pass ⟨0, 0, 0, 0⟩)))
theorem gsc_names : gsc.names = [((".0" : Str), NameKind.local), (("sign" : Str), NameKind.local), (("signs" : Str), NameKind.free)] := by
  decide +kernel
theorem gen_ok {env : Env} (h : ∃ c, env.cells.lookup ("signs" : Str) = some c) : GxR.GenS env gsc "sign" := by
  refine ⟨by decide +kernel, by decide +kernel, ?_, by decide +kernel, by decide +kernel, ?_⟩
  · rw [gsc_names]
    decide +kernel
  · rw [gsc_names]
    intro y hy e
    simp only [List.mem_cons, List.not_mem_nil, or_false] at hy
    rcases hy with rfl | rfl | rfl
    · cases e
    · cases e
    · exact h
theorem clo_ok (cells : List (Str × Addr)) (q : Addr) (h : cells.lookup ("signs" : Str) = some q) :
    (cloFrom cells gsc.names []).lookup ("signs" : Str) = some q := by
  rw [gsc_names]
  have e1 : (NameKind.local == NameKind.free) = false := by decide
  have e2 : (NameKind.free == NameKind.free) = true := by decide
  simp only [cloFrom, e1, e2, Bool.false_eq_true, if_false, if_true, h, Option.getD_some]
  rw [List.lookup_cons_self]
/-- which signs it may be written of -/
def allIn (signs z : Str) : Bool := z.cps.toList.all fun c => decide (c ∈ signs.cps.toList)
def writ : V → Str → Int → Bool
  | .str z, signs, most => (decide (1 ≤ (z.length : Int)) && decide ((z.length : Int) ≤ most)) && allIn signs z
  | _, _, _ => false
theorem all_occ (signs z : Str) : (z.cps.toList.all fun c => !(Builtin.Str.occurrences signs ⟨#[c]⟩ 0 signs.length 1).isEmpty) = allIn signs z := by
  unfold allIn
  congr 1
  funext c
  exact PySem.StrLaws.found_one signs c
def LET : Str := "abcdefghijklmnopqrstuvwxyz"
/-- a name -/
def nameOk : V → Bool
  | .str z => writ (.str z) LET 8 && !decide (z ∈ ownW)
  | _ => false
/-- the two tables of code -/
structure Cd {K : PySem.W.Frag} {mg : Str → Option Value} (D : Defs K mg) (base : Heap) (t1 t2 : Addr) where
  c1 : Addr
  c2 : Addr
  h1 : D.is_written_of.fd.code = .ref c1
  h2 : D.are_keys.fd.code = .ref c2
  T1 : GxR.TabB base mg c1 t1
  T2 : GxR.TabB base mg c2 t2
section
variable {P : Program} {w : World} {K : PySem.W.Frag} {mg : Str → Option Value} {base : Heap} {t1 t2 : Addr}
def spWhole (K : PySem.W.Frag) : Sp := fun vs H Q _ => ∃ x, vs = [x] ∧ Thing K H x ∧ Q (.bl (isInt x)) H
theorem ok_is_whole (D : Defs K mg) (T : Tx K mg) : FnOk P w K mg base CX0 1 D.is_whole.f D.is_whole.fd ["thing"] (spWhole K) := by
  refine D.is_whole.F.ok sciswhole (fun vs H Q E h => ?_) (fun cdv A outer s H vs Q E hr h => ?_)
  · obtain ⟨x, rfl, _⟩ := h
    rfl
  · obtain ⟨x, rfl, th, k⟩ := h
    refine ⟨_, (pss_one (ps_ret (pe_and (pe_callB call_is_int (by rfl) T.b_isinstance (by decide +kernel) (pa_cons (pv 0) (pa_cons (pe_bltn (v := .ty "int") (u := .type "int") (by rfl) T.b_int (by decide +kernel) rfl) pa_nil))) (pe_one (pe_not (pe_callB call_is_bool (by rfl) T.b_isinstance (by decide +kernel) (pa_cons (pv 0) (pa_cons (pe_bltn (v := .ty "bool") (u := .type "bool") (by rfl) T.b_bool (by decide +kernel) rfl) pa_nil)))))))), ?_⟩
    refine ⟨_, rfl, _, rfl, th, _, rfl, ?_⟩
    cases th with
    | int i => exact iteT ⟨_, rfl, _, rfl, .int i, _, rfl, k⟩
    | bl b => exact iteT ⟨_, rfl, _, rfl, .bl b, _, rfl, k⟩
    | _ => exact iteF k
def spWithin (K : PySem.W.Frag) : Sp := fun vs H Q _ => ∃ x lo hi, vs = [x, .int lo, .int hi] ∧ Thing K H x ∧ Q (.bl (within x lo hi)) H
theorem ok_is_within (D : Defs K mg) (T : Tx K mg) : FnOk P w K mg base CX0 2 D.is_within.f D.is_within.fd ["thing", "low", "high"] (spWithin K) := by
  have Gis_whole := ok_is_whole (P := P) (w := w) (base := base) D T
  refine D.is_within.F.ok sciswithin (fun vs H Q E h => ?_) (fun cdv A outer s H vs Q E hr h => ?_)
  · obtain ⟨x, lo, hi, rfl, _⟩ := h
    rfl
  · obtain ⟨x, lo, hi, rfl, th, k⟩ := h
    refine ⟨_, (pss_one (ps_ret (pe_and (pcall D.is_whole Gis_whole hr (by decide) (by rfl) (pa_cons (pv 0) pa_nil)) (pe_one (pe_chain op_le op_le (pv 1) (pv 0) (pv 2)))))), ?_⟩
    refine ⟨x, rfl, x, rfl, th, ⟨_, rfl, ?_⟩⟩
    cases th with
    | int i =>
      refine iteT ⟨_, rfl, _, rfl, _, _, rfl, rfl, _, rfl, ?_⟩
      by_cases h1 : lo ≤ i
      · rw [decide_eq_true h1]
        refine iteT ⟨_, rfl, _, _, rfl, rfl, ?_⟩
        have e : within (.int i) lo hi = decide (i ≤ hi) := by simp [within, h1]
        rw [e] at k
        exact k
      · rw [decide_eq_false h1]
        have e : within (.int i) lo hi = false := by simp [within, h1]
        rw [e] at k
        exact iteF k
    | _ => exact iteF k
def spWrit (K : PySem.W.Frag) (tb : Addr) : Sp := fun vs H Q _ => ∃ x signs most, vs = [x, .str signs, .int most] ∧ Thing K H x ∧ short x ∧
  GxR.TabG H tb ∧ ∀ H', GxR.Tabbed tb H H' → Q (.bl (writ x signs most)) H'
theorem ok_is_written_of (D : Defs K mg) (T : Tx K mg) (B : Cd D base t1 t2) :
    FnOk P w K mg base CX0 1 D.is_written_of.f D.is_written_of.fd ["thing", "signs", "most"] (spWrit K t1) := by
  obtain ⟨c, c2, hc, _, TB, _⟩ := B
  refine okC D.is_written_of.F hc sciswrittenof (fun vs H Q E h => ?_) (fun A outer s H vs Q E hr h => ?_)
  · obtain ⟨x, lo, hi, rfl, _⟩ := h
    rfl
  · obtain ⟨x, signs, most, rfl, th, sh, tab, k⟩ := h
    have GS := gen_ok (env := envOfC "is_written_of" (defScope sciswrittenof_st) s.heap.objs.size D.is_written_of.f (.ref c)) (cell_has (by decide +kernel))
    have hclo := clo_ok
    have hcode : (cxOf CX0 P w K mg base sciswrittenof_N "is_written_of" (defScope sciswrittenof_st) D.is_written_of.f (.ref c) A outer s H E).nox.env.code = .ref c := rfl
    refine ⟨_, (pss_cons (ps_if (PW.pt (pw_or (pt_not (pt_val (pe_callB call_is_str (by rfl) T.b_isinstance (by decide +kernel) (pa_cons (pv 0) (pa_cons (pe_bltn (v := .ty "str") (u := .type "str") (by rfl) T.b_str (by decide +kernel) rfl) pa_nil))))) (pw_or1 (pt_not (pt_chain op_le op_le pe_int (pe_callB call_len_str (by rfl) T.b_len (by decide +kernel) (pa_cons (pv 0) pa_nil)) (pv 2)))))) (pss_one (ps_ret pe_bl)) pss_nil)
        (pss_one (ps_ret (pe_allC (j := 1) hr (by rfl) T.b_all (by decide +kernel) TB hcode GS (pv 0) (fun b => elt_in rfl rfl rfl) rfl rfl hclo (fun _ => rfl))))), ?_⟩
    refine ⟨_, rfl, _, rfl, th, _, rfl, ?_⟩
    have same : GxR.Tabbed t1 H H := ⟨tab, fun _ _ => rfl⟩
    cases th with
    | str z =>
      refine iteF ⟨_, rfl, z, rfl, sh, _, _, rfl, rfl, _, rfl, ?_⟩
      by_cases h1 : 1 ≤ (z.length : Int)
      · rw [decide_eq_true h1]
        refine iteT ⟨_, rfl, _, _, rfl, rfl, _, rfl, ?_⟩
        by_cases h2 : (z.length : Int) ≤ most
        · rw [decide_eq_true h2]
          refine iteF ⟨_, rfl, z, signs, rfl, rfl, tab, fun H2 t2 => ?_⟩
          rw [all_occ]
          have e : writ (.str z) signs most = allIn signs z := by simp [writ, h1, h2]
          rw [← e]
          exact k H2 t2
        · rw [decide_eq_false h2]
          have e : writ (.str z) signs most = false := by simp [writ, h2]
          have k := k H same
          rw [e] at k
          exact iteT k
      · rw [decide_eq_false h1]
        have e : writ (.str z) signs most = false := by simp [writ, h1]
        have k := k H same
        rw [e] at k
        exact iteF ⟨_, rfl, iteT k⟩
    | _ => exact iteT (k H same)
def spName (K : PySem.W.Frag) (tb : Addr) (g : V → Bool) : Sp := fun vs H Q _ => ∃ x, vs = [x] ∧ Thing K H x ∧ short x ∧
  GxR.TabG H tb ∧ ∀ H', GxR.Tabbed tb H H' → Q (.bl (g x)) H'
theorem ok_is_name (D : Defs K mg) (T : Tx K mg) (B : Cd D base t1 t2) :
    FnOk P w K mg base CX0 2 D.is_name.f D.is_name.fd ["thing"] (spName K t1 nameOk) := by
  have Gis_written_of := ok_is_written_of (P := P) (w := w) (base := base) D T B
  refine D.is_name.F.ok scisname (fun vs H Q E h => ?_) (fun cdv A outer s H vs Q E hr h => ?_)
  · obtain ⟨x, rfl, _⟩ := h
    rfl
  · obtain ⟨x, rfl, th, sh, tab, k⟩ := h
    refine ⟨_, (pss_one (ps_ret (pe_and (pcall D.is_written_of Gis_written_of hr (by decide) (by rfl) (pa_cons (pv 0) (pa_cons (pe_glob (v := .str "abcdefghijklmnopqrstuvwxyz") (by rfl) T.g_LETTERS ⟨_, rfl⟩) (pa_cons (pe_glob (v := .int 8) (by rfl) T.g_MOST_IN_NAME ⟨_, rfl⟩) pa_nil)))) (pe_one (pe_cmpR op_notIn_seq (pv 0) (pe_glob (v := .ref D.ow.a) (by rfl) D.ow.g rfl) (by rfl)))))), ?_⟩
    refine ⟨_, rfl, x, LET, 8, rfl, th, sh, tab, fun H1 t1 => ⟨_, rfl, ?_⟩⟩
    have k := k H1 t1
    cases hw : writ x LET 8 with
    | false =>
      have e : nameOk x = false := by
        cases x with
        | str z => simp [nameOk, hw]
        | _ => rfl
      rw [e] at k
      exact iteF k
    | true =>
      cases x with
      | str z =>
        refine iteT ⟨_, rfl, D.ow.a, _, rfl, .inr (D.ow.words H1), rfl, by decide +kernel, ?_⟩
        have e : nameOk (.str z) = !decide (z ∈ ownW) := by simp only [nameOk, hw, Bool.true_and]
        rw [e] at k
        rw [own_in]
        exact k
      | _ => cases hw
theorem ok_NoFrame___init__ (D : Defs K mg) (T : Tx K mg) : FnOk P w K mg base CX0 1 D.erNoFrame.f D.erNoFrame.fd ["self", "found"] (spInitE K "found") := by
  refine D.erNoFrame.F.ok scNoFrameinit (fun vs H Q E h => ?_) (fun cdv A outer s H vs Q E hr h => ?_)
  · obtain ⟨a, C, v, rfl, _⟩ := h
    rfl
  · obtain ⟨a, C, v, rfl, ox, no, ha, k⟩ := h
    refine ⟨_, (pss_one (ps_ost (pv 0) (pv 1))), ?_⟩
    exact ⟨_, rfl, _, rfl, a, C, rfl, ox, no, .inl ⟨ha, fun dx hd ne => k dx hd ne⟩⟩
theorem hot_NoFrame___init__ (D : Defs K mg) (T : Tx K mg) : L2H.FnH P w K mg base CX0 1 D.erNoFrame.f D.erNoFrame.fd ["self", "found"] (spInitE K "found") := by
  refine okH D.erNoFrame.F scNoFrameinit (fun vs H Q E h => ?_) (fun cdv A outer s H vs Q E p h => ?_)
  · obtain ⟨a, C, v, rfl, _⟩ := h
    rfl
  · obtain ⟨a, C, v, rfl, ox, no, ha, k⟩ := h
    refine ⟨_, (pss_one (ps_ost (pv 0) (pv 1))), ?_⟩
    exact ⟨_, rfl, _, rfl, a, C, rfl, ox, no, .inl ⟨ha, fun dx hd ne => k dx hd ne⟩⟩
theorem ok_NoKey___init__ (D : Defs K mg) (T : Tx K mg) : FnOk P w K mg base CX0 1 D.erNoKey.f D.erNoKey.fd ["self", "found"] (spInitE K "found") := by
  refine D.erNoKey.F.ok scNoKeyinit (fun vs H Q E h => ?_) (fun cdv A outer s H vs Q E hr h => ?_)
  · obtain ⟨a, C, v, rfl, _⟩ := h
    rfl
  · obtain ⟨a, C, v, rfl, ox, no, ha, k⟩ := h
    refine ⟨_, (pss_one (ps_ost (pv 0) (pv 1))), ?_⟩
    exact ⟨_, rfl, _, rfl, a, C, rfl, ox, no, .inl ⟨ha, fun dx hd ne => k dx hd ne⟩⟩
end
end LL
namespace LL
open PySem PySem.Spec PyProof.Rows L2
theorem name_len {z : Str} (h : nameOk (.str z) = true) : z.length ≤ 8 := by
  have h : (writ (.str z) LET 8 && !decide (z ∈ ownW)) = true := h
  have h1 : ((decide (1 ≤ (z.length : Int)) && decide ((z.length : Int) ≤ 8)) && allIn LET z) = true := (Bool.and_eq_true_iff.mp h).1
  have := of_decide_eq_true (Bool.and_eq_true_iff.mp (Bool.and_eq_true_iff.mp h1).1).2
  omega
theorem name_short {z : Str} (h : nameOk (.str z) = true) : short (.str z) := by
  have := name_len h
  show z.length ≤ sizeLine
  have := PySem.sizeLine_eq
  omega
theorem let_low : ∀ c ∈ LET.cps.toList, c < 0x110000 := by decide +kernel
theorem name_ok {z : Str} (h : nameOk (.str z) = true) : PyData.strOk z = true := by
  have h : (writ (.str z) LET 8 && !decide (z ∈ ownW)) = true := h
  have h1 : ((decide (1 ≤ (z.length : Int)) && decide ((z.length : Int) ≤ 8)) && allIn LET z) = true := (Bool.and_eq_true_iff.mp h).1
  have h2 : (z.cps.toList.all fun c => decide (c ∈ LET.cps.toList)) = true := (Bool.and_eq_true_iff.mp h1).2
  show z.cps.all (· < 0x110000) = true
  rw [← Array.all_toList, List.all_eq_true]
  intro c hc
  exact decide_eq_true (let_low c (of_decide_eq_true (List.all_eq_true.mp h2 c hc)))
/-- the keys of a frame -/
structure KeysOk (ks : List Str) : Prop where
  nd : ks.Nodup
  one : 1 ≤ ks.length
  most : ks.length ≤ 12
  names : ∀ k ∈ ks, nameOk (.str k) = true
def genA : Stmt → Scope
  | .Return (some (.BoolOp _ (.Call _ [.GeneratorExp _ _ sc _] _ _ :: _) _)) _ => sc
  | _ => { kind := .function, names := [], isGenerator := false, isCoroutine := false }
abbrev gscA : Scope := genA ((defBody scarekeys_st).getD 1 (.Pass ⟨0, 0, 0, 0⟩))
theorem gscA_names : gscA.names = [((".0" : Str), NameKind.local), (("key" : Str), NameKind.local), (("is_name" : Str), NameKind.globalImplicit)] := by decide +kernel
theorem genA_ok {env : Env} : GxR.GenS env gscA "key" := by
  refine ⟨by decide +kernel, by decide +kernel, ?_, by decide +kernel, by decide +kernel, ?_⟩
  · rw [gscA_names]
    decide +kernel
  · rw [gscA_names]
    intro y hy e
    simp only [List.mem_cons, List.not_mem_nil, or_false] at hy
    rcases hy with rfl | rfl | rfl <;> cases e
section
variable {P : Program} {w : World} {K : PySem.W.Frag} {mg : Str → Option Value} {base : Heap} {t1 t2 : Addr}
theorem isSeq_str {K : PySem.W.Frag} {H : Hp} {a : Addr} {ks : List Str} (h : StrSq H a ks) : IsSeq K H (.ref a) true := by
  rcases h with h | h
  · exact .lst (tyX_l h)
  · exact .tup (tyX_t h)
/-- what are_keys tells of a thing -/
inductive KeysT (K : PySem.W.Frag) (H : Hp) : V → Bool → Prop
  | noseq {x : V} (h : IsSeq K H x false) : KeysT K H x false
  | len {a : Addr} {xs : List V} (h : H a = some (.lst xs) ∨ H a = some (.tup xs)) (l : xs.length = 0 ∨ 12 < xs.length) : KeysT K H (.ref a) false
  | bad {a : Addr} {xs : List V} {i : Nat} {v : V} (h : H a = some (.lst xs) ∨ H a = some (.tup xs)) (l2 : xs.length ≤ 12) (up : ∀ j u, j < i → xs[j]? = some u → ∃ z, u = .str z ∧ nameOk (.str z) = true) (hv : xs[i]? = some v) (th : Thing K H v) (sh : short v) (no : nameOk v = false) : KeysT K H (.ref a) false
  | two {a : Addr} {ks : List Str} {i j : Nat} {z : Str} (h : StrSq H a ks) (l2 : ks.length ≤ 12) (names : ∀ k ∈ ks, nameOk (.str k) = true) (h1 : ks[i]? = some z) (h2 : ks[j]? = some z) (lt : i < j) : KeysT K H (.ref a) false
  | good {a : Addr} {ks : List Str} (h : StrSq H a ks) (ok : KeysOk ks) : KeysT K H (.ref a) true
theorem isSeqA {K : PySem.W.Frag} {H : Hp} {a : Addr} {xs : List V} (h : H a = some (.lst xs) ∨ H a = some (.tup xs)) : IsSeq K H (.ref a) true := by
  rcases h with h | h
  · exact .lst (tyX_l h)
  · exact .tup (tyX_t h)
def spKeys (K : PySem.W.Frag) (t1 t2 : Addr) : Sp := fun vs H Q _ => ∃ (x : V) (b : Bool), vs = [x] ∧ KeysT K H x b ∧ (∀ P ∈ [t1, t2], GxR.TabG H P) ∧ ∀ H', Nws [t1, t2] H H' → Q (.bl b) H'
theorem ok_are_keys (D : Defs K mg) (T : Tx K mg) (B : Cd D base t1 t2) : FnOk P w K mg base CX0 6 D.are_keys.f D.are_keys.fd ["thing"] (spKeys K t1 t2) := by
  have Gis_name := ok_is_name (P := P) (w := w) (base := base) D T B
  obtain ⟨_, c, _, hc, _, TB2⟩ := B
  refine okC D.are_keys.F hc scarekeys (fun vs H Q E h => ?_) (fun A outer s H vs Q E hr h => ?_)
  · obtain ⟨x, b, rfl, _⟩ := h
    rfl
  · obtain ⟨x, b, rfl, kt, tabs, k⟩ := h
    have GS := genA_ok (env := envOfC "are_keys" (defScope scarekeys_st) s.heap.objs.size D.are_keys.f (.ref c))
    have hcode : (cxOf CX0 P w K mg base scarekeys_N "are_keys" (defScope scarekeys_st) D.are_keys.f (.ref c) A outer s H E).nox.env.code = .ref c := rfl
    refine ⟨_, (pss_cons (ps_if (PW.pt (pw_or (pt_not (pt_val (pe_callB call_is_seq (by rfl) T.b_isinstance (by decide +kernel) (pa_cons (pv 0) (pa_cons (pe_tup (pa_cons (pe_bltn (v := .ty "list") (u := .type "list") (by rfl) T.b_list (by decide +kernel) rfl) (pa_cons (pe_bltn (v := .ty "tuple") (u := .type "tuple") (by rfl) T.b_tuple (by decide +kernel) rfl) pa_nil))) pa_nil))))) (pw_or1 (pt_not (pt_chain op_le op_le pe_int (pe_callB call_len_seq (by rfl) T.b_len (by decide +kernel) (pa_cons (pv 0) pa_nil)) (pe_glob (v := .int 12) (by rfl) T.g_MOST_KEYS ⟨_, rfl⟩)))))) (pss_one (ps_ret pe_bl)) pss_nil)
        (pss_one (ps_ret (pe_and (pe_or (pe_allL false (k := 2) [] hr (by rfl) T.b_all (by decide +kernel) TB2 hcode GS (pv 0) (by decide) (fun q hq => by cases hq) (fun cv s H ia A hrA => pcall D.is_name Gis_name hrA (by decide) (by rfl) (pa_cons (pv 0) pa_nil)) (fun _ => rfl)) (pe_allL true (k := 2) [] hr (by rfl) T.b_all (by decide +kernel) TB2 hcode GS (pv 0) (by decide) (fun q hq => by cases hq) (fun cv s H ia A hrA => pcall D.is_name Gis_name hrA (by decide) (by rfl) (pa_cons (pv 0) pa_nil)) (fun _ => rfl))) (pe_one (pe_cmpR op_eq (pe_lenTxtD rfl (by rfl) T.b_len (by rfl) T.b_set (pv 0)) (pe_callB call_len_seq (by rfl) T.b_len (by decide +kernel) (pa_cons (pv 0) pa_nil)) (nomark _))))))), ?_⟩
    have hst : L2.start scarekeys_N [x] = [some x] := rfl
    rw [hst]
    refine ⟨_, rfl, (by show 2 ≤ sizeLine; decide), fun tp htp => ?_⟩
    have n1 := (Nws.refl tabs).new htp (u := .tup [.ty "list", .ty "tuple"])
    have e1 : (upd H tp (.tup [.ty "list", .ty "tuple"])) tp = some (.tup [.ty "list", .ty "tuple"]) := upd_same
    generalize upd H tp (.tup [.ty "list", .ty "tuple"]) = H1 at n1 e1 ⊢
    have m1 : t1 ∈ [t1, t2] := by simp
    have m2 : t2 ∈ [t1, t2] := by simp
    -- all names: what is left
    have after : ∀ (a : Addr) (ks : List Str) (c : Bool) (H' : Hp), StrSq H1 a ks → ks.length ≤ 12 → decide (cntD ks ks.length = ks.length) = c → Nws [t1, t2] H1 H' → Q (.bl c) H' → (tOp rEq (tLenTxtD K (tVar 0)) (tCB (fun xs H_1 Q => ∃ p ys, xs = [.ref p] ∧ (SqL K H_1 p ys ∨ SqT K H_1 p ys) ∧ Q (.int ys.length) H_1) (tCons (tVar 0) tNil))) [some (.ref a)] H' Q := by
      intro a ks c H' sq l2 e n q
      have sq' := (sq.nws n).sq (K := K)
      refine ⟨_, rfl, a, ks, rfl, sq', by omega, _, rfl, a, _, rfl, sq', rfl, ?_⟩
      rw [List.length_map, dec_int, show (((cntD ks ks.length : Nat) : Int) == ((ks.length : Nat) : Int)) = c from by rw [← e]; exact decide_eq_decide.mpr ⟨fun z => Int.ofNat.inj z, fun z => congrArg _ z⟩]
      exact q
    have nameturn : ∀ (z : Str) (H' : Hp) (I Q' : Hp → Prop), nameOk (.str z) = true → Nws [t1, t2] H1 H' → (∀ H'', Nws [t1, t2] H' H'' → I H'') →
        (tCall (spName K t1 nameOk) [] E0 (tCons (tVar 0) tNil)) [some (.str z)] H' fun y H'' => ∃ b, y = .bl b ∧ if b = true then I H'' else Q' H'' := by
      intro z H' I Q' nz n i
      refine ⟨_, rfl, .str z, rfl, .str z, name_short nz, n.tab t1 m1, fun H'' td => ⟨_, rfl, ?_⟩⟩
      rw [nz]
      exact iteT (i _ (Nws.of n.tab m1 td))
    cases kt with
    | noseq h => exact ⟨_, tp, _, rfl, e1, h.keep n1.keep, _, rfl, iteT (k _ n1)⟩
    | @len a xs h l =>
      have h1 : H1 a = some (.lst xs) ∨ H1 a = some (.tup xs) := h.imp n1.lst n1.tup
      have hs : SqL K H1 a xs ∨ SqT K H1 a xs := h1.imp SqL.of SqT.of
      refine ⟨_, tp, _, rfl, e1, isSeqA h1, _, rfl, iteF ?_⟩
      refine ⟨_, rfl, a, xs, rfl, hs, _, _, rfl, rfl, _, rfl, ?_⟩
      rcases l with l | l
      · rw [decide_eq_false (by omega)]
        exact iteF ⟨_, rfl, iteT (k _ n1)⟩
      · rw [decide_eq_true (by omega)]
        refine iteT ⟨_, _, rfl, rfl, _, rfl, ?_⟩
        rw [decide_eq_false (by omega)]
        exact iteT (k _ n1)
    | @bad a xs i v h l2 up hv th sh no =>
      have h1 : H1 a = some (.lst xs) ∨ H1 a = some (.tup xs) := h.imp n1.lst n1.tup
      have hs : SqL K H1 a xs ∨ SqT K H1 a xs := h1.imp SqL.of SqT.of
      have il := (List.getElem?_eq_some_iff.mp hv).1
      refine ⟨_, tp, _, rfl, e1, isSeqA h1, _, rfl, iteF ?_⟩
      refine ⟨_, rfl, a, xs, rfl, hs, _, _, rfl, rfl, _, rfl, ?_⟩
      rw [decide_eq_true (by omega)]
      refine iteT ⟨_, _, rfl, rfl, _, rfl, ?_⟩
      rw [decide_eq_true (by omega)]
      refine iteF ?_
      have turn : ∀ (i' : Nat) (u : V) (H' : Hp) (Q' : Hp → Prop), xs[i']? = some u → Nws [t1, t2] H1 H' ∧ i' ≤ i → (∀ H'', Nws [t1, t2] H1 H'' → Q' H'') →
          (tCall (spName K t1 nameOk) [] E0 (tCons (tVar 0) tNil)) [some u] H' fun y H'' => ∃ b, y = .bl b ∧ if b = true then (Nws [t1, t2] H1 H'' ∧ i' + 1 ≤ i) else Q' H'' := by
        intro i' u H' Q' hu p fin
        rcases Nat.lt_or_eq_of_le p.2 with l | rfl
        · obtain ⟨z, rfl, nz⟩ := up i' u l hu
          exact nameturn z H' _ _ nz p.1 fun H'' n => ⟨p.1.trans n, l⟩
        · rw [hv] at hu
          cases hu
          refine ⟨_, rfl, v, rfl, (th.keep n1.keep).keep p.1.keep, sh, p.1.tab t1 m1, fun H'' td => ⟨_, rfl, ?_⟩⟩
          rw [no]
          exact iteF (fin _ (p.1.trans (Nws.of p.1.tab m1 td)))
      rcases h1 with h1 | h1
      · refine .inl ⟨_, rfl, a, xs, rfl, SqL.of h1, n1.tab t2 m2, fun i' H' => Nws [t1, t2] H1 H' ∧ i' ≤ i, fun H2 t => ⟨Nws.of n1.tab m2 t, Nat.zero_le _⟩, fun i' H' p => SqL.of (p.1.lst h1), fun i' u H' hu p => turn i' u H' _ hu p fun H'' n => ⟨_, rfl, iteF (k _ (n1.trans n))⟩, fun H' p => absurd p.2 (by omega)⟩
      · refine .inr ⟨_, rfl, a, xs, rfl, SqT.of h1, n1.tab t2 m2, fun i' H' => Nws [t1, t2] H1 H' ∧ i' ≤ i, fun H2 t => ⟨Nws.of n1.tab m2 t, Nat.zero_le _⟩, fun i' H' p => SqT.of (p.1.tup h1), fun i' u H' hu p => turn i' u H' _ hu p fun H'' n => ⟨_, rfl, iteF (k _ (n1.trans n))⟩, fun H' p => absurd p.2 (by omega)⟩
    | @two a ks i j z h l2 names hz1 hz2 lt =>
      have sq1 := h.nws n1
      have il := (List.getElem?_eq_some_iff.mp hz1).1
      refine ⟨_, tp, _, rfl, e1, isSeq_str sq1, _, rfl, iteF ?_⟩
      refine ⟨_, rfl, a, _, rfl, sq1.sq, _, _, rfl, rfl, _, rfl, ?_⟩
      rw [List.length_map, decide_eq_true (show (1 : Int) ≤ (ks.length : Int) by omega)]
      refine iteT ⟨_, _, rfl, rfl, _, rfl, ?_⟩
      rw [decide_eq_true (show (ks.length : Int) ≤ 12 by omega)]
      refine iteF ?_
      have ne := cntD_two hz1 hz2 lt
      have fin : ∀ H', Nws [t1, t2] H1 H' → _ := fun H' n => after a ks false H' sq1 l2 (decide_eq_false (by omega)) n (k H' (n1.trans n))
      have turn : ∀ (i : Nat) (v : V) (H' : Hp) (Q' : Hp → Prop), (ks.map V.str)[i]? = some v → Nws [t1, t2] H1 H' →
          (tCall (spName K t1 nameOk) [] E0 (tCons (tVar 0) tNil)) [some v] H' fun y H'' => ∃ b, y = .bl b ∧ if b = true then Nws [t1, t2] H1 H'' else Q' H'' := by
        intro i v H' Q' hv n
        obtain ⟨z, hz, rfl⟩ := List.mem_map.mp (List.mem_of_getElem? hv)
        exact nameturn z H' _ _ (names z hz) n fun H'' n2 => n.trans n2
      rcases sq1 with e | e
      · refine .inl ⟨_, rfl, a, ks.map V.str, rfl, SqL.of e, n1.tab t2 m2, fun i H' => Nws [t1, t2] H1 H', fun H2 td => Nws.of n1.tab m2 td, fun i H' n => SqL.of (n.lst e), fun i v H' hv n => turn i v H' _ hv n, fun H' n => ⟨_, rfl, iteT (fin H' n)⟩⟩
      · refine .inr ⟨_, rfl, a, ks.map V.str, rfl, SqT.of e, n1.tab t2 m2, fun i H' => Nws [t1, t2] H1 H', fun H2 td => Nws.of n1.tab m2 td, fun i H' n => SqT.of (n.tup e), fun i v H' hv n => turn i v H' _ hv n, fun H' n => ⟨_, rfl, iteT (fin H' n)⟩⟩
    | @good a ks h ok =>
      have sq1 := h.nws n1
      have l1 := ok.one
      have l2 := ok.most
      refine ⟨_, tp, _, rfl, e1, isSeq_str sq1, _, rfl, iteF ?_⟩
      refine ⟨_, rfl, a, _, rfl, sq1.sq, _, _, rfl, rfl, _, rfl, ?_⟩
      rw [List.length_map, decide_eq_true (show (1 : Int) ≤ (ks.length : Int) by omega)]
      refine iteT ⟨_, _, rfl, rfl, _, rfl, ?_⟩
      rw [decide_eq_true (show (ks.length : Int) ≤ 12 by omega)]
      refine iteF ?_
      have fin : ∀ H', Nws [t1, t2] H1 H' → _ := fun H' n => after a ks true H' sq1 l2 (decide_eq_true (cntD_nd ok.nd _ (Nat.le_refl _))) n (k H' (n1.trans n))
      have turn : ∀ (i : Nat) (v : V) (H' : Hp) (Q' : Hp → Prop), (ks.map V.str)[i]? = some v → Nws [t1, t2] H1 H' →
          (tCall (spName K t1 nameOk) [] E0 (tCons (tVar 0) tNil)) [some v] H' fun y H'' => ∃ b, y = .bl b ∧ if b = true then Nws [t1, t2] H1 H'' else Q' H'' := by
        intro i v H' Q' hv n
        obtain ⟨z, hz, rfl⟩ := List.mem_map.mp (List.mem_of_getElem? hv)
        exact nameturn z H' _ _ (ok.names z hz) n fun H'' n2 => n.trans n2
      rcases sq1 with e | e
      · refine .inl ⟨_, rfl, a, ks.map V.str, rfl, SqL.of e, n1.tab t2 m2, fun i H' => Nws [t1, t2] H1 H', fun H2 td => Nws.of n1.tab m2 td, fun i H' n => SqL.of (n.lst e), fun i v H' hv n => turn i v H' _ hv n, fun H' n => ⟨_, rfl, iteT (fin H' n)⟩⟩
      · refine .inr ⟨_, rfl, a, ks.map V.str, rfl, SqT.of e, n1.tab t2 m2, fun i H' => Nws [t1, t2] H1 H', fun H2 td => Nws.of n1.tab m2 td, fun i H' n => SqT.of (n.tup e), fun i v H' hv n => turn i v H' _ hv n, fun H' n => ⟨_, rfl, iteT (fin H' n)⟩⟩
end
end LL
namespace LL
open PySem PySem.Spec PyProof.Rows L2
/-- a frame's keys, days and turns as they must be -/
structure FrOk (f : Fr) : Prop where
  ks : KeysOk f.keys
  d1 : 1 ≤ f.days
  d2 : f.days ≤ 400
  u1 : 1 ≤ f.turns
  u2 : f.turns ≤ 400
section
variable {P : Program} {w : World} {K : PySem.W.Frag} {mg : Str → Option Value} {base : Heap} {t1 t2 : Addr}
/-- all that stood is kept, but p and the tables -/
structure Made (t1 t2 p : Addr) (H H' : Hp) : Prop where
  tab : ∀ P ∈ [t1, t2], GxR.TabG H' P
  old : ∀ b o, b ∉ [t1, t2] → b ≠ p → H b = some o → H' b = some o
/-- an own error is raised with v, new things and the tables aside nothing has changed -/
def RaiW (Ts : List Addr) (C : Addr) (v : V) (H : Hp) (E : XK) : Prop := ∀ d H', Nws Ts H H' → H d = none → H' d = some (.xd [("found", v)]) → E (.ref C) (some d) H'
theorem RaiW.raise {Ts : List Addr} {C : Addr} {v : V} {d : Addr} {H H' : Hp} {E : XK} (h : RaiW Ts C v H E) (x : Nws Ts H H') (hd : H' d = none) : E (.ref C) (some d) (L2.upd H' d (.xd [("found", v)])) := h d _ (x.new hd) (x.free hd) upd_same
theorem RaiW.at {Ts : List Addr} {C : Addr} {v : V} {H H1 : Hp} {E : XK} (h : RaiW Ts C v H E) (x : Nws Ts H H1) : RaiW Ts C v H1 E := fun d H' n hd e => h d H' (x.trans n) (x.free hd) e
/-- the first of the three that is none -/
inductive FirstBad (K : PySem.W.Frag) (H : Hp) (x d u : V) : V → Prop
  | keys (h : KeysT K H x false) : FirstBad K H x d u x
  | days (h : KeysT K H x true) (t : Thing K H d) (n : within d 1 400 = false) : FirstBad K H x d u d
  | turns (h : KeysT K H x true) (t : Thing K H d) (n : within d 1 400 = true) (t2 : Thing K H u) (n2 : within u 1 400 = false) : FirstBad K H x d u u
def spInit (K : PySem.W.Frag) (C N t1 t2 : Addr) : Sp := fun vs H Q E => ∃ (p dx : Addr) (x d u : V), vs = [.ref p, x, d, u] ∧ H p = some (.ins C dx []) ∧ (∀ P ∈ [t1, t2], GxR.TabG H P) ∧
  ((∃ (a : Addr) (f : Fr), x = .ref a ∧ d = .int (f.days : Int) ∧ u = .int (f.turns : Int) ∧ StrSq H a f.keys ∧ FrOk f ∧ ∀ H', FrameAt C H' p f → Made t1 t2 p H H' → Q .non H') ∨
   (∃ v, FirstBad K H x d u v ∧ RaiW [t1, t2] N v H E))
theorem within_400 {n : Nat} (h1 : 1 ≤ n) (h2 : n ≤ 400) : within (.int (n : Int)) 1 400 = true := by
  simp only [within, Bool.and_eq_true, decide_eq_true_eq]
  omega
theorem init_Frame (D : Defs K mg) (T : Tx K mg) (B : Cd D base t1 t2) : FnOk P w K mg base (L2N.CX P w) 7 D.Frame___init__.f D.Frame___init__.fd ["self", "keys", "days", "turns"] (spInit K D.cFrame D.erNoFrame.C t1 t2) := by
  have Gare_keys := ok_are_keys (P := P) (w := w) (base := base) D T B
  have Gis_within := ok_is_within (P := P) (w := w) (base := base) D T
  have GNoFrame___init__ := ok_NoFrame___init__ (P := P) (w := w) (base := base) D T
  refine okN D.Frame___init__.F scFrameinit (fun vs H Q E h => ?_) (fun cdv A outer s H vs Q E hr h => ?_)
  · obtain ⟨p, dx, x, d, u, rfl, _⟩ := h
    rfl
  · obtain ⟨p, dx, x, d, u, rfl, hp, tabs, h⟩ := h
    refine ⟨_, (pss_cons (ps_if (pt_not (pt_val (pcall D.are_keys Gare_keys hr (by decide) (by rfl) (pa_cons (pv 1) pa_nil)))) (pss_one (L2N.ps_raise rfl (L2N.takes_of rfl rfl rfl rfl) (pmkEN D.erNoFrame GNoFrame___init__ rfl rfl rfl rfl rfl hr (by decide) (by rfl) (pa_cons (pv 1) pa_nil)))) pss_nil)
        (pss_cons (ps_if (pt_not (pt_val (pcall D.is_within Gis_within hr (by decide) (by rfl) (pa_cons (pv 2) (pa_cons pe_int (pa_cons (pe_glob (v := .int 400) (by rfl) T.g_MOST_DAYS ⟨_, rfl⟩) pa_nil)))))) (pss_one (L2N.ps_raise rfl (L2N.takes_of rfl rfl rfl rfl) (pmkEN D.erNoFrame GNoFrame___init__ rfl rfl rfl rfl rfl hr (by decide) (by rfl) (pa_cons (pv 2) pa_nil)))) pss_nil)
        (pss_cons (ps_if (pt_not (pt_val (pcall D.is_within Gis_within hr (by decide) (by rfl) (pa_cons (pv 3) (pa_cons pe_int (pa_cons (pe_glob (v := .int 400) (by rfl) T.g_MOST_TURNS ⟨_, rfl⟩) pa_nil)))))) (pss_one (L2N.ps_raise rfl (L2N.takes_of rfl rfl rfl rfl) (pmkEN D.erNoFrame GNoFrame___init__ rfl rfl rfl rfl rfl hr (by decide) (by rfl) (pa_cons (pv 3) pa_nil)))) pss_nil)
        (pss_cons (ps_fld (pv 0) (pv 2) rfl)
        (pss_cons (ps_fld (pv 0) (pv 3) rfl)
        (pss_one (ps_fld (pv 0) (pe_dc (own := [("place", 4), ("key", 5)]) rfl scFrameinit.nd (pi_or (pi_enum (by rfl) T.b_enumerate (pa_cons (pv 1) pa_nil)) (pi_enumT (by rfl) T.b_enumerate (pa_cons (pv 1) pa_nil))) (blkOk_by (N := scFrameinit_N) (sc := defScope scFrameinit_st) (by decide +kernel)) (fun _ _ _ _ _ => (pg_tupK (K := K) (n := 2) rfl rfl (pgs_cons (pg_name (i := 4) scFrameinit.nd rfl (Or.inl rfl)) (pgs_cons (pg_name (i := 5) scFrameinit.nd rfl (Or.inl rfl)) pgs_nil)))) (fun _ _ _ _ _ => pts_nil) (fun _ _ _ _ _ => (pv 5)) (fun _ _ _ _ _ => (pv 4))) rfl))))))), ?_⟩
    rcases h with ⟨a, f, rfl, rfl, rfl, sq, ok, k⟩ | ⟨v, fb, rai⟩
    case' inr =>
      have go : ∀ (y : V) (H' : Hp) (G : Prop), Thing K H y → Nws [t1, t2] H H' → within y 1 400 = true → G → G := fun _ _ _ _ _ _ g => g
      cases fb with
      | keys h =>
        refine ⟨_, rfl, _, false, rfl, h, tabs, fun H1 n1 => ⟨_, rfl, iteT ?_⟩⟩
        exact ⟨_, rfl, mkE D.erNoFrame fun d hd => rai.raise n1 hd⟩
      | days h th n =>
        refine ⟨_, rfl, x, true, rfl, h, tabs, fun H1 n1 => ⟨_, rfl, iteF ?_⟩⟩
        refine ⟨_, rfl, _, 1, 400, rfl, th.keep n1.keep, ?_⟩
        rw [n]
        refine ⟨_, rfl, iteT ?_⟩
        exact ⟨_, rfl, mkE D.erNoFrame fun d hd => rai.raise n1 hd⟩
      | turns h th n th2 n2 =>
        refine ⟨_, rfl, x, true, rfl, h, tabs, fun H1 n1 => ⟨_, rfl, iteF ?_⟩⟩
        refine ⟨_, rfl, d, 1, 400, rfl, th.keep n1.keep, ?_⟩
        rw [n]
        refine ⟨_, rfl, iteF ?_⟩
        refine ⟨_, rfl, _, 1, 400, rfl, th2.keep n1.keep, ?_⟩
        rw [n2]
        refine ⟨_, rfl, iteT ?_⟩
        exact ⟨_, rfl, mkE D.erNoFrame fun d hd => rai.raise n1 hd⟩
    refine ⟨_, rfl, .ref a, true, rfl, .good sq ok.ks, tabs, fun H1 n1 => ⟨_, rfl, iteF ?_⟩⟩
    refine ⟨_, rfl, _, 1, 400, rfl, .int _, ?_⟩
    rw [within_400 ok.d1 ok.d2]
    refine ⟨_, rfl, iteF ?_⟩
    refine ⟨_, rfl, _, 1, 400, rfl, .int _, ?_⟩
    rw [within_400 ok.u1 ok.u2]
    refine ⟨_, rfl, iteF ?_⟩
    have hp1 : H1 p = some (.ins D.cFrame dx []) := n1.get hp (fun q z => by cases z)
    have pt : p ∉ [t1, t2] := tabs_ne tabs hp (fun q z => by cases z)
    refine ⟨_, rfl, _, rfl, p, D.cFrame, dx, [], rfl, hp1, D.clFrame, D.n_days, (by show 0 < 1000; decide), ?_⟩
    refine ⟨_, rfl, _, rfl, p, D.cFrame, dx, _, rfl, upd_same, D.clFrame, D.n_turns, (by show 1 < 1000; decide), ?_⟩
    rw [upd_upd]
    have sq1 := sq.nws n1
    have ap : a ≠ p := fun z => by
      rcases sq with e | e <;> (rw [z, hp] at e; cases e)
    generalize hG : upd H1 p (.ins D.cFrame dx (putF "turns" (.int (f.turns : Int)) (putF "days" (.int (f.days : Int)) []))) = G
    have gp : G p = some (.ins D.cFrame dx (putF "turns" (.int (f.turns : Int)) (putF "days" (.int (f.days : Int)) []))) := by rw [← hG]; exact upd_same
    have go : ∀ b, b ≠ p → G b = H1 b := fun b n => by rw [← hG]; exact upd_ne n
    have tabG : ∀ P ∈ [t1, t2], GxR.TabG G P := fun P hP => by
      obtain ⟨ps, e, tr⟩ := n1.tab P hP
      have nz : P ≠ p := fun z => pt (by rw [← z]; exact hP)
      exact ⟨ps, by rw [go P nz]; exact e, tr⟩
    have sqG : StrSq G a f.keys := by
      rcases sq1 with e | e
      · exact .inl (by rw [go a ap]; exact e)
      · exact .inr (by rw [go a ap]; exact e)
    clear hG
    have fewK : ∀ (i : Nat), i ≤ f.keys.length → (places (f.keys.take i)).length < sizeLine := fun i hi => by
      show (placesF 0 _).length < sizeLine
      rw [places_len, List.length_take]
      have := ok.ks.most
      have := PySem.sizeLine_eq
      omega
    -- behind the dict
    have after : ∀ (d : Addr) (H' : Hp), G d = none → Nws [t1, t2] G H' → H' d = some (.dK (places f.keys)) →
        (sFld K (tVar 0) (tC (.ref d)) "_places") { nx := fun _ H' => Q .non H', rt := Q } [some (.ref p), some (.ref a), some (.int (f.days : Int)), some (.int (f.turns : Int)), none, none] H' := by
      intro d H' hd n e
      have pd : p ≠ d := ne_of_none gp hd
      refine ⟨_, rfl, p, D.cFrame, dx, _, rfl, n.get gp (fun q z => by cases z), D.clFrame, D.n_places, (by show 2 < 1000; decide), ?_⟩
      refine k _ ⟨dx, d, upd_same, by rw [upd_ne pd.symm]; exact e⟩ ⟨fun R hR => ?_, fun b o nb np e => ?_⟩
      · obtain ⟨ps, e, tr⟩ := n.tab R hR
        have nz : R ≠ p := fun z => pt (by rw [← z]; exact hR)
        exact ⟨ps, by rw [upd_ne nz]; exact e, tr⟩
      · rw [upd_ne np]
        exact n.old b o nb (by rw [go b np]; exact n1.old b o nb e)
    rcases sqG with e | e
    · refine .inl ⟨_, rfl, a, _, rfl, SqL.of e, fun d hd => ?_⟩
      refine dc_enumL (K := K) (a := a) (xs := f.keys.map V.str) (fun i H' => Nws [t1, t2] G H' ∧ H' d = some (.dK (places (f.keys.take i)))) ⟨(Nws.refl tabG).new hd, upd_same⟩ (fun i H' _ q => SqL.of (q.1.lst e)) ?_ ?_
      · rintro i x H' T hx ⟨n, ed⟩ hT
        obtain ⟨z, hz, rfl⟩ : ∃ z, f.keys[i]? = some z ∧ V.str z = x := by
          rw [List.getElem?_map] at hx
          cases q : f.keys[i]? with
          | none => rw [q] at hx; cases hx
          | some z => rw [q] at hx; exact ⟨z, rfl, Option.some.inj hx⟩
        have dT : d ≠ T := ne_of_none ed hT
        have edT : (upd H' T (.tup [.int (i : Nat), .str z])) d = some (.dK (places (f.keys.take i))) := by rw [upd_ne dT]; exact ed
        refine ⟨T, _, rfl, SqT.of upd_same, rfl, _, _, rfl, _, _, rfl, rfl, rfl, ?_⟩
        refine ⟨_, rfl, _, rfl, _, .inr z, rfl, edT, fewK i (Nat.le_of_lt (List.getElem?_eq_some_iff.mp hz).1), (n.new hT).put hd edT (fun q z => by cases z), ?_⟩
        rw [upd_same]
        exact congrArg (fun y => some (HO.dK y)) (places_put ok.ks.nd hz)
      · rintro H' ⟨n, ed⟩
        rw [List.length_map, List.take_length] at ed
        exact after d H' hd n ed
    · refine .inr ⟨_, rfl, a, _, rfl, SqT.of e, fun d hd => ?_⟩
      refine dc_enumT (K := K) (a := a) (xs := f.keys.map V.str) (fun i H' => Nws [t1, t2] G H' ∧ H' d = some (.dK (places (f.keys.take i)))) ⟨(Nws.refl tabG).new hd, upd_same⟩ (fun i H' _ q => SqT.of (q.1.tup e)) ?_ ?_
      · rintro i x H' T hx ⟨n, ed⟩ hT
        obtain ⟨z, hz, rfl⟩ : ∃ z, f.keys[i]? = some z ∧ V.str z = x := by
          rw [List.getElem?_map] at hx
          cases q : f.keys[i]? with
          | none => rw [q] at hx; cases hx
          | some z => rw [q] at hx; exact ⟨z, rfl, Option.some.inj hx⟩
        have dT : d ≠ T := ne_of_none ed hT
        have edT : (upd H' T (.tup [.int (i : Nat), .str z])) d = some (.dK (places (f.keys.take i))) := by rw [upd_ne dT]; exact ed
        refine ⟨T, _, rfl, SqT.of upd_same, rfl, _, _, rfl, _, _, rfl, rfl, rfl, ?_⟩
        refine ⟨_, rfl, _, rfl, _, .inr z, rfl, edT, fewK i (Nat.le_of_lt (List.getElem?_eq_some_iff.mp hz).1), (n.new hT).put hd edT (fun q z => by cases z), ?_⟩
        rw [upd_same]
        exact congrArg (fun y => some (HO.dK y)) (places_put ok.ks.nd hz)
      · rintro H' ⟨n, ed⟩
        rw [List.length_map, List.take_length] at ed
        exact after d H' hd n ed
theorem ok_Frame___init__ (D : Defs K mg) (T : Tx K mg) (B : Cd D base t1 t2) : FnOk P w K mg base (CX P w) 7 D.Frame___init__.f D.Frame___init__.fd ["self", "keys", "days", "turns"] (spInit K D.cFrame D.erNoFrame.C t1 t2) := fn_zc (init_Frame D T B)
end
end LL
namespace LL
open PySem PySem.Spec PyProof.Rows L2
theorem m1 : ¬ (("is_point" : Str) = "_places") ∧ ¬ (("is_point" : Str) = "turns") ∧ ¬ (("is_point" : Str) = "days") := by decide +kernel
theorem m2 : ¬ (("has_key" : Str) = "_places") ∧ ¬ (("has_key" : Str) = "turns") ∧ ¬ (("has_key" : Str) = "days") := by decide +kernel
theorem m3 : ¬ (("told" : Str) = "_places") ∧ ¬ (("told" : Str) = "turns") ∧ ¬ (("told" : Str) = "days") := by decide +kernel
theorem m4 : ¬ (("key_names" : Str) = "_places") ∧ ¬ (("key_names" : Str) = "turns") ∧ ¬ (("key_names" : Str) = "days") := by decide +kernel
theorem m5 : ¬ (("now" : Str) = "_places") ∧ ¬ (("now" : Str) = "turns") ∧ ¬ (("now" : Str) = "days") := by decide +kernel
theorem m6 : ¬ (("place_of" : Str) = "_places") ∧ ¬ (("place_of" : Str) = "turns") ∧ ¬ (("place_of" : Str) = "days") := by decide +kernel
theorem Made.nws {t1 t2 p dx : Addr} {C : Addr} {H H' : Hp} (m : Made t1 t2 p (upd (upd H dx (.own p)) p (.ins C dx [])) H') (hp : H p = none) (hd : H dx = none) (tabs : ∀ P ∈ [t1, t2], GxR.TabG H P) : Nws [t1, t2] H H' :=
  ⟨tabs, m.tab, fun b o nb e => m.old b o nb (ne_of_none e hp) (by rw [upd_ne (ne_of_none e hp), upd_ne (ne_of_none e hd)]; exact e)⟩
theorem KeysT.keep {K : PySem.W.Frag} {H H' : Hp} {x : V} {b : Bool} (k : Keep H H') (h : KeysT K H x b) : KeysT K H' x b := by
  have sq : ∀ {a : Addr} {ks : List Str}, StrSq H a ks → StrSq H' a ks := fun {a ks} s => by
    rcases s with s | s
    · exact .inl (k _ _ (fun q z => by cases z) s)
    · exact .inr (k _ _ (fun q z => by cases z) s)
  have lt : ∀ {a : Addr} {xs : List V}, H a = some (.lst xs) ∨ H a = some (.tup xs) → H' a = some (.lst xs) ∨ H' a = some (.tup xs) := fun {a xs} s => by
    rcases s with s | s
    · exact .inl (k _ _ (fun q z => by cases z) s)
    · exact .inr (k _ _ (fun q z => by cases z) s)
  cases h with
  | noseq h => exact .noseq (h.keep k)
  | len h l => exact .len (lt h) l
  | bad h l2 up hv th sh no => exact .bad (lt h) l2 up hv (th.keep k) sh no
  | two h l2 names h1 h2 l => exact .two (sq h) l2 names h1 h2 l
  | good h ok => exact .good (sq h) ok
theorem FirstBad.keep {K : PySem.W.Frag} {H H' : Hp} {x d u v : V} (k : Keep H H') (h : FirstBad K H x d u v) : FirstBad K H' x d u v := by
  cases h with
  | keys h => exact .keys (h.keep k)
  | days h t n => exact .days (h.keep k) (t.keep k) n
  | turns h t n t2 n2 => exact .turns (h.keep k) (t.keep k) n (t2.keep k) n2
section
variable {P : Program} {w : World} {K : PySem.W.Frag} {mg : Str → Option Value} {base : Heap} {t1 t2 : Addr}
def spTold (C : Addr) : Sp := fun vs H Q _ => ∃ (p : Addr) (f : Fr), vs = [.ref p] ∧ FrameAt C H p f ∧ ∀ q H', H q = none → Exd H H' → ToldAt H' q f → Q (.ref q) H'
theorem ok_Frame_told (D : Defs K mg) (T : Tx K mg) : FnOk P w K mg base CX0 1 D.Frame_told.f D.Frame_told.fd ["self"] (spTold D.cFrame) := by
  refine D.Frame_told.F.ok scFrametold (fun vs H Q E h => ?_) (fun cdv A outer s H vs Q E hr h => ?_)
  · obtain ⟨p, f, rfl, _⟩ := h
    rfl
  · obtain ⟨p, f, rfl, ⟨dx, d, e1, e2⟩, k⟩ := h
    refine ⟨_, (pss_one (ps_ret (pe_tup (pa_cons (pe_callTy (call_tupleD rfl) (by rfl) T.b_tuple (by decide +kernel) (pa_cons (pe_fld (pv 0) rfl) pa_nil)) (pa_cons (pe_fld (pv 0) rfl) (pa_cons (pe_fld (pv 0) rfl) pa_nil)))))), ?_⟩
    refine ⟨_, rfl, p, D.cFrame, dx, _, _, rfl, e1, D.clFrame, D.n_places, flds_places _ _ _, d, _, rfl, .inl e2, fun u hu => ?_⟩
    rw [show (places f.keys).map (fun kv => kV kv.1) = f.keys.map V.str from places_keys 0 _]
    have x1 : Exd H (upd H u (.tup (f.keys.map V.str))) := (Exd.refl _).new hu
    have eu : (upd H u (.tup (f.keys.map V.str))) u = some (.tup (f.keys.map V.str)) := upd_same
    generalize upd H u (.tup (f.keys.map V.str)) = H1 at x1 eu ⊢
    refine ⟨_, rfl, p, D.cFrame, dx, _, _, rfl, x1 _ _ e1, D.clFrame, D.n_days, flds_days _ _ _, ?_⟩
    refine ⟨_, rfl, p, D.cFrame, dx, _, _, rfl, x1 _ _ e1, D.clFrame, D.n_turns, flds_turns _ _ _, ?_⟩
    refine ⟨(by show 3 ≤ sizeLine; decide), fun q hq => k q _ (x1.free hq) (x1.new hq) ⟨u, upd_same, ((Exd.refl _).new hq) _ _ eu⟩⟩
def spHas (K : PySem.W.Frag) (C t1 t2 : Addr) : Sp := fun vs H Q _ => ∃ (p : Addr) (f : Fr) (x : V), vs = [.ref p, x] ∧ FrameAt C H p f ∧ (∀ k ∈ f.keys, nameOk (.str k) = true) ∧ Thing K H x ∧ short x ∧ (∀ P ∈ [t1, t2], GxR.TabG H P) ∧
  ∀ H', Nws [t1, t2] H H' → Q (.bl (isKeyV f.keys x)) H'
theorem ok_Frame_has_key (D : Defs K mg) (T : Tx K mg) (B : Cd D base t1 t2) : FnOk P w K mg base CX0 3 D.Frame_has_key.f D.Frame_has_key.fd ["self", "thing"] (spHas K D.cFrame t1 t2) := by
  have Gis_name := ok_is_name (P := P) (w := w) (base := base) D T B
  refine D.Frame_has_key.F.ok scFramehaskey (fun vs H Q E h => ?_) (fun cdv A outer s H vs Q E hr h => ?_)
  · obtain ⟨p, f, x, rfl, _⟩ := h
    rfl
  · obtain ⟨p, f, x, rfl, fr, nm, th, sh, tabs, k⟩ := h
    refine ⟨_, (pss_one (ps_ret (pe_and (pcall D.is_name Gis_name hr (by decide) (by rfl) (pa_cons (pv 1) pa_nil)) (pe_one (pe_cmp (pc_din (hu_of hr) (pv 1) (pe_fld (pv 0) rfl))))))), ?_⟩
    refine ⟨_, rfl, x, rfl, th, sh, tabs t1 List.mem_cons_self, fun H1 td => ⟨_, rfl, ?_⟩⟩
    have n1 := Nws.of tabs List.mem_cons_self td
    cases hn : nameOk x with
    | false =>
      refine iteF ?_
      have e : isKeyV f.keys x = false := by
        cases x with
        | str z =>
          show decide (z ∈ f.keys) = false
          refine decide_eq_false fun m => ?_
          rw [nm z m] at hn
          cases hn
        | _ => rfl
      have k := k H1 n1
      rw [e] at k
      exact k
    | true =>
      cases x with
      | str z =>
        obtain ⟨dx, d, e1, e2⟩ := fr.nws n1
        refine iteT ⟨_, rfl, _, rfl, p, D.cFrame, dx, _, _, rfl, e1, D.clFrame, D.n_places, flds_places _ _ _, d, _, rfl, DGet.k (k := .inr z) e2, ?_⟩
        rw [show (valV (places f.keys) (Sum.inr z)).isSome = decide (z ∈ f.keys) from places_val 0 _ z]
        exact k H1 n1
      | _ => cases hn
def spPlace (K : PySem.W.Frag) (C N t1 t2 : Addr) : Sp := fun vs H Q E => ∃ (p : Addr) (f : Fr) (x : V), vs = [.ref p, x] ∧ FrameAt C H p f ∧ KeysOk f.keys ∧ (∀ P ∈ [t1, t2], GxR.TabG H P) ∧ Thing K H x ∧ short x ∧ isKeyV f.keys x = false ∧ RaiW [t1, t2] N x H E
theorem ok_Frame_place_of (D : Defs K mg) (T : Tx K mg) (B : Cd D base t1 t2) : FnOk P w K mg base (CX P w) 4 D.Frame_place_of.f D.Frame_place_of.fd ["self", "key"] (spPlace K D.cFrame D.erNoKey.C t1 t2) := by
  have GFrame_has_key := ok_Frame_has_key (P := P) (w := w) (base := base) D T B
  have GNoKey___init__ := ok_NoKey___init__ (P := P) (w := w) (base := base) D T
  refine D.Frame_place_of.F.okX scFrameplaceof (fun vs H Q E h => ?_) (fun cdv A outer s H vs Q E hr h => ?_)
  · obtain ⟨p, f, x, rfl, _⟩ := h
    rfl
  · obtain ⟨p, f, x, rfl, fr, ok, tabs, th, sh, no, rai⟩ := h
    refine ⟨_, (pss_cons (ps_if (pt_not (pt_val (pmeth D.Frame_has_key GFrame_has_key D.clFrame hr (by decide) (pv 0) (pa_cons (pv 1) pa_nil)))) (pss_one (ps_raise rfl (takes_of rfl rfl rfl rfl) (pmkE D.erNoKey GNoKey___init__ rfl rfl rfl rfl rfl hr (by decide) (by rfl) (pa_cons (pv 1) pa_nil)))) pss_nil)
        (pss_one (ps_ret (pe_dget (hu_of hr) (pe_fld (pv 0) rfl) (pv 1) (fun _ _ => rfl))))), ?_⟩
    obtain ⟨dx0, d0, e10, _⟩ := id fr
    refine ⟨_, rfl, p, dx0, _, rfl, e10, flds_no _ _ _ m2.1 m2.2.1 m2.2.2, _, rfl, p, f, x, rfl, fr, ok.names, th, sh, tabs, fun H1 n1 => ?_⟩
    rw [no]
    refine ⟨_, rfl, iteT ?_⟩
    exact ⟨_, rfl, mkE D.erNoKey fun d hd => rai.raise n1 hd⟩
/-- what Frame(..) asks -/
theorem make_frame {C N : Addr} {a : Addr} {f : Fr} {H : Hp} {Q : VK} {E : XK} (sq : StrSq H a f.keys) (ok : FrOk f) (tabs : ∀ P ∈ [t1, t2], GxR.TabG H P)
    (k : ∀ p H', H p = none → Nws [t1, t2] H H' → FrameAt C H' p f → Q (.ref p) H') : ∀ x dx, H x = none → H dx = none → dx ≠ x →
      spInit K C N t1 t2 (.ref x :: ([.ref a, .int (f.days : Int), .int (f.turns : Int)] ++ [])) (upd (upd H dx (.own x)) x (.ins C dx [])) (fun v H2 => v = .non ∧ Q (.ref x) H2) E := by
  intro x dx hx hdx ne
  have hx' : (upd H dx (.own x)) x = none := by rw [upd_ne ne.symm]; exact hx
  have xe : Exd H (upd (upd H dx (.own x)) x (.ins C dx [])) := ((Exd.refl _).new hdx).new hx'
  exact ⟨x, dx, _, _, _, rfl, upd_same, (xe.nws tabs).tab, .inl ⟨a, f, rfl, rfl, rfl, sq.exd xe, ok, fun H' fr md => ⟨rfl, k x H' hx (md.nws hx hdx tabs) fr⟩⟩⟩
theorem make_bad {C N : Addr} {y d u v : V} {H : Hp} {Q : VK} {E : XK} (fb : FirstBad K H y d u v) (tabs : ∀ P ∈ [t1, t2], GxR.TabG H P) (rai : RaiW [t1, t2] N v H E) : ∀ x dx, H x = none → H dx = none → dx ≠ x →
      spInit K C N t1 t2 (.ref x :: ([y, d, u] ++ [])) (upd (upd H dx (.own x)) x (.ins C dx [])) (fun v H2 => v = .non ∧ Q (.ref x) H2) E := by
  intro x dx hx hdx ne
  have hx' : (upd H dx (.own x)) x = none := by rw [upd_ne ne.symm]; exact hx
  have xe : Exd H (upd (upd H dx (.own x)) x (.ins C dx [])) := ((Exd.refl _).new hdx).new hx'
  have n := xe.nws tabs
  exact ⟨x, dx, _, _, _, rfl, upd_same, n.tab, .inr ⟨v, fb.keep n.keep, rai.at n⟩⟩
/-- what tells no frame -/
inductive NoTell (K : PySem.W.Frag) (H : Hp) : V → Prop
  | other {x : V} (h : IsTup K H x false) : NoTell K H x
  | wrong {q : Addr} {xs : List V} (h : H q = some (.tup xs)) (n : xs.length ≠ 3) : NoTell K H (.ref q)
  | first {q : Addr} {y d u : V} (h : H q = some (.tup [y, d, u])) (t : IsTup K H y false) : NoTell K H (.ref q)
  | inner {q : Addr} {y d u v : V} (h : H q = some (.tup [y, d, u])) (t : IsTup K H y true) (fb : FirstBad K H y d u v) : NoTell K H (.ref q)
def spFrameOf (K : PySem.W.Frag) (C N t1 t2 : Addr) : Sp := fun vs H Q E => ∃ (x : V), vs = [x] ∧ (∀ P ∈ [t1, t2], GxR.TabG H P) ∧
  ((∃ (q : Addr) (f : Fr), x = .ref q ∧ ToldAt H q f ∧ FrOk f ∧ ∀ p H', H p = none → Nws [t1, t2] H H' → FrameAt C H' p f → Q (.ref p) H') ∨ (NoTell K H x ∧ RaiW [t1, t2] N x H E))
theorem ok_frame_of (D : Defs K mg) (T : Tx K mg) (B : Cd D base t1 t2) : FnOk P w K mg base (CX P w) 9 D.frame_of.f D.frame_of.fd ["told"] (spFrameOf K D.cFrame D.erNoFrame.C t1 t2) := by
  have NFrame___init__ := init_Frame (P := P) (w := w) (base := base) D T B
  have GNoFrame___init__ := ok_NoFrame___init__ (P := P) (w := w) (base := base) D T
  have HNoFrame___init__ := hot_NoFrame___init__ (P := P) (w := w) (base := base) D T
  refine D.frame_of.F.okX scframeof (fun vs H Q E h => ?_) (fun cdv A outer s H vs Q E hr h => ?_)
  · obtain ⟨x, rfl, _⟩ := h
    rfl
  · obtain ⟨x, rfl, tabs, h⟩ := h
    refine ⟨_, (pss_cons (ps_if (PW.pt (pw_or (pt_not (pt_val (pe_callB call_is_tuple (by rfl) T.b_isinstance (by decide +kernel) (pa_cons (pv 0) (pa_cons (pe_bltn (v := .ty "tuple") (u := .type "tuple") (by rfl) T.b_tuple (by decide +kernel) rfl) pa_nil))))) (pw_or (pt_cmpR op_ne (pe_callB call_len_seq (by rfl) T.b_len (by decide +kernel) (pa_cons (pv 0) pa_nil)) pe_int (nomark _)) (pw_or1 (pt_not (pt_val (pe_callB call_is_tuple (by rfl) T.b_isinstance (by decide +kernel) (pa_cons (pe_ix ix_tup (pv 0) pe_int (fun _ _ => rfl)) (pa_cons (pe_bltn (v := .ty "tuple") (u := .type "tuple") (by rfl) T.b_tuple (by decide +kernel) rfl) pa_nil))))))))) (pss_one (ps_raise rfl (takes_of rfl rfl rfl rfl) (pmkE D.erNoFrame GNoFrame___init__ rfl rfl rfl rfl rfl hr (by decide) (by rfl) (pa_cons (pv 0) pa_nil)))) pss_nil)
        (pss_cons (ps_asg (pv 0) (pg_tup rfl (pgs_cons (pg_name (i := 1) scframeof.nd rfl (Or.inl rfl)) (pgs_cons (pg_name (i := 2) scframeof.nd rfl (Or.inl rfl)) (pgs_cons (pg_name (i := 3) scframeof.nd rfl (Or.inl rfl)) pgs_nil)))))
        (pss_one (L2H.ps_try_onlyX rfl rfl ⟨by rfl, by decide, .inl D.erNoFrame.g⟩ (L2H.passesAt_of rfl) (takes_of rfl rfl rfl rfl) (fun W pn xe tk _ _ => (pss_one (ps_ret (pmakeN D.mkFrame D.Frame___init__.b NFrame___init__ tk hr (by decide) (by rfl) D.g_Frame (pa_cons (pv 1) (pa_cons (pv 2) (pa_cons (pv 3) pa_nil))))))) (fun a oe cls d pn hz hf tk2 hot => (pss_one (L2H.ps_raiseHN hot tk2 (L2H.pmk5_oexH D.erNoFrame.oex D.erNoFrame.iC D.erNoFrame.tI HNoFrame___init__ (L2H.roomH_mark (hr.mono (by decide)) _) hot D.erNoFrame.b pass0 (by rfl) D.erNoFrame.g (pa_cons (pv 0) pa_nil))))))))), ?_⟩
    have hst : L2.start scframeof_N [x] = [some x, none, none, none] := rfl
    rw [hst]
    rcases h with ⟨q, f, rfl, ⟨u, e1, e2⟩, ok, k⟩ | ⟨nt, rai⟩
    · refine ⟨_, rfl, _, _, rfl, .tup (tyX_t e1), _, rfl, iteF ?_⟩
      refine ⟨_, rfl, q, _, rfl, .inr (SqT.of e1), rfl, _, rfl, iteF ?_⟩
      refine ⟨_, rfl, q, _, _, _, rfl, rfl, SqT.of e1, atT0 _ _, _, _, rfl, .tup (tyX_t e2), _, rfl, iteF ?_⟩
      refine ⟨_, rfl, q, _, rfl, SqT.of e1, rfl, _, _, rfl, _, _, rfl, _, _, rfl, rfl, ?_⟩
      exact ⟨_, rfl, _, rfl, _, rfl, make_frame (.inr e2) ok tabs k⟩
    · cases nt with
      | other h =>
        refine ⟨_, rfl, _, _, rfl, h, _, rfl, iteT ?_⟩
        exact ⟨_, rfl, mkE D.erNoFrame fun d hd => rai.raise (Nws.refl tabs) hd⟩
      | @wrong q xs h n =>
        refine ⟨_, rfl, _, _, rfl, .tup (tyX_t h), _, rfl, iteF ?_⟩
        refine ⟨_, rfl, q, xs, rfl, .inr (SqT.of h), rfl, _, rfl, ?_⟩
        rw [decide_eq_false (show ¬ V.int (xs.length : Int) = V.int 3 from fun z => n (by injection z with z; omega))]
        refine iteT ?_
        exact ⟨_, rfl, mkE D.erNoFrame fun d hd => rai.raise (Nws.refl tabs) hd⟩
      | @first q y d u h t =>
        refine ⟨_, rfl, _, _, rfl, .tup (tyX_t h), _, rfl, iteF ?_⟩
        refine ⟨_, rfl, q, _, rfl, .inr (SqT.of h), rfl, _, rfl, iteF ?_⟩
        refine ⟨_, rfl, q, _, _, _, rfl, rfl, SqT.of h, atT0 _ _, _, _, rfl, t, _, rfl, iteT ?_⟩
        exact ⟨_, rfl, mkE D.erNoFrame fun d hd => rai.raise (Nws.refl tabs) hd⟩
      | @inner q y d u v h t fb =>
        refine ⟨_, rfl, _, _, rfl, .tup (tyX_t h), _, rfl, iteF ?_⟩
        refine ⟨_, rfl, q, _, rfl, .inr (SqT.of h), rfl, _, rfl, iteF ?_⟩
        refine ⟨_, rfl, q, _, _, _, rfl, rfl, SqT.of h, atT0 _ _, _, _, rfl, t, _, rfl, iteF ?_⟩
        refine ⟨_, rfl, q, _, rfl, SqT.of h, rfl, _, _, rfl, _, _, rfl, _, _, rfl, rfl, ?_⟩
        refine ⟨_, rfl, _, rfl, _, rfl, make_bad fb tabs fun dd H2 n2 hd2 e2 => ?_⟩
        refine ⟨true, D.erNoFrame.te, fun _ a ha => ?_, fun z => by cases z⟩
        exact ⟨_, rfl, mkE D.erNoFrame fun d hd => rai.raise n2 hd⟩
end
end LL
namespace LL
open PySem PySem.Spec PyProof.Rows L2
theorem gset {i : Nat} {v : V} {σ σ' : L2.St} {H : Hp} {Q : L2.St → Hp → Prop} (h : σ.set i (some v) = σ') (q : Q σ' H) : gName i v σ H Q := by
  subst h
  exact q
theorem own_two : ∀ w ∈ ownW, (match w.cps.toList[1]? with | some c => c != 122 && c != 113 | none => false) = true := by decide +kernel
theorem nm_name {cs : List Nat} (h : Nm cs) : nameOk (.str (ofC cs)) = true := by
  show (writ (.str (ofC cs)) LET 8 && !decide (ofC cs ∈ ownW)) = true
  have e1 := h.one
  have e2 := h.eight
  have a : allIn LET (ofC cs) = true := by
    unfold allIn
    rw [ofC_cps, List.all_eq_true]
    exact fun c hc => decide_eq_true (low_in (h.low c hc))
  have wr : writ (.str (ofC cs)) LET 8 = true := by
    show ((decide (1 ≤ ((ofC cs).length : Int)) && decide (((ofC cs).length : Int) ≤ 8)) && allIn LET (ofC cs)) = true
    rw [a, ofC_len, decide_eq_true (show (1 : Int) ≤ (cs.length : Int) by omega), decide_eq_true (show (cs.length : Int) ≤ 8 by omega)]
    rfl
  rw [wr, Bool.true_and]
  have no : ¬ ofC cs ∈ ownW := fun m => by
    have t := own_two _ m
    rw [ofC_cps] at t
    cases q : cs[1]? with
    | none => rw [q] at t; cases t
    | some c =>
      rw [q] at t
      have t : (c != 122 && c != 113) = true := t
      rcases h.two c q with rfl | rfl <;> cases t
  rw [decide_eq_false no]
  rfl
/-- the law's names -/
structure NmsOk (css : List (List Nat)) : Prop where
  nd : css.Nodup
  one : 1 ≤ css.length
  most : css.length ≤ 12
  nm : ∀ cs ∈ css, Nm cs
theorem nodup_ofC {css : List (List Nat)} (h : css.Nodup) : (css.map ofC).Nodup := by
  rw [List.Nodup, List.pairwise_map]
  exact h.imp fun n e => n (ofC_inj e)
theorem NmsOk.keys {css : List (List Nat)} (h : NmsOk css) : KeysOk (css.map ofC) where
  nd := nodup_ofC h.nd
  one := by rw [List.length_map]; exact h.one
  most := by rw [List.length_map]; exact h.most
  names := fun k hk => by
    obtain ⟨cs, hc, rfl⟩ := List.mem_map.mp hk
    exact nm_name (h.nm cs hc)
section
variable {P : Program} {w : World} {K : PySem.W.Frag} {mg : Str → Option Value} {base : Heap} {t1 t2 : Addr}
def spCell (K : PySem.W.Frag) : Sp := fun vs H Q _ => ∃ (a : Addr) (k : Nat) (ns : List Int), vs = [.ref a, .int k] ∧ SqL K H a (ns.map V.int) ∧ ∀ i : Int, Q (.int i) H
theorem ok__law_cell_at (D : Defs K mg) (T : Tx K mg) : FnOk P w K mg base CX0 1 D._law_cell_at.f D._law_cell_at.fd ["_law_script", "_law_k"] (spCell K) := by
  refine D._law_cell_at.F.ok scLcellat (fun vs H Q E h => ?_) (fun cdv A outer s H vs Q E hr h => ?_)
  · obtain ⟨a, k, ns, rfl, _⟩ := h
    rfl
  · obtain ⟨a, j, ns, rfl, hS, k⟩ := h
    refine ⟨_, (pss_cons (ps_if (pt_cmpR op_lt (pv 1) (pe_callB call_len_seq (by rfl) T.b_len (by decide +kernel) (pa_cons (pv 0) pa_nil)) (nomark _)) (pss_one (ps_ret (pe_ix ix_list (pv 0) (pv 1) (fun _ _ => rfl)))) pss_nil)
        (pss_one (ps_ret (pe_op op_add (pe_op op_mul pe_int (pv 1)) pe_int)))), ?_⟩
    refine ⟨_, rfl, _, rfl, a, _, rfl, .inl hS, _, _, rfl, rfl, _, rfl, ?_⟩
    refine ite2 (fun y => ?_) (fun _ => ?_)
    · have hj : j < ns.length := by
        have := of_decide_eq_true y
        rw [List.length_map] at this
        omega
      refine ⟨_, rfl, _, rfl, a, _, _, _, rfl, rfl, hS, atI_nat (v := .int ns[j]) ?_, k _⟩
      rw [List.getElem?_map, List.getElem?_eq_getElem hj]
      rfl
    · exact ⟨_, rfl, _, _, rfl, rfl, .inl ⟨by decide, by decide⟩, _, _, rfl, rfl, k _⟩
def spBox : Sp := fun vs H Q _ => ∃ i : Int, vs = [.int i] ∧ ∀ p o, H p = none → BoxO o → Q (.ref p) (upd H p o)
theorem ok__law_box (D : Defs K mg) (T : Tx K mg) : FnOk P w K mg base CX0 1 D._law_box.f D._law_box.fd ["_law_cell"] spBox := by
  refine D._law_box.F.ok scLbox (fun vs H Q E h => ?_) (fun cdv A outer s H vs Q E hr h => ?_)
  · obtain ⟨i, rfl, _⟩ := h
    rfl
  · obtain ⟨i, rfl, k⟩ := h
    have m0 : 0 ≤ i % 2147483629 := Int.emod_nonneg _ (by decide)
    have m1 : i % 2147483629 < 2147483629 := Int.emod_lt_of_pos _ (by decide)
    refine ⟨_, (pss_cons (ps_if (pt_cmpR op_ge (pv 0) (pe_op op_pow pe_int pe_int) (nomark _)) (pss_one (ps_ret (pe_lst (pa_cons (pv 0) (pa_cons (pe_op op_mod (pv 0) pe_int) (pa_cons pe_int pa_nil)))))) pss_nil)
        (pss_one (ps_ret (pe_lst (pa_cons pe_int (pa_cons (pe_op op_mod (pv 0) pe_int) (pa_cons pe_int pa_nil))))))), ?_⟩
    refine ⟨_, rfl, _, _, rfl, rfl, ⟨by decide, by decide, by decide⟩, _, _, rfl, rfl, _, rfl, ?_⟩
    refine ite2 (fun y => ?_) (fun _ => ?_)
    · have y1 := of_decide_eq_true y
      have y0 : 0 ≤ i := Int.le_trans (by decide) y1
      exact ⟨_, rfl, _, rfl, _, _, rfl, rfl, (by show (0 : Int) < 2147483629; decide), (by show 3 ≤ sizeLine; decide), fun p hp => k p _ hp ⟨i, _, 0, rfl, y0, m0, by omega⟩⟩
    · exact ⟨_, rfl, _, _, rfl, rfl, (by show (0 : Int) < 2147483629; decide), (by show 3 ≤ sizeLine; decide), fun p hp => k p _ hp ⟨0, _, 0, rfl, Int.le_refl _, m0, by omega⟩⟩
def spTake : Sp := fun vs H Q _ => ∃ (a : Addr) (m : Int), vs = [.ref a, .int m] ∧ Bx H a ∧ 0 < m ∧ m < 1073741824 ∧ ∀ r H', 0 ≤ r → r < m → Kept a H H' → Q (.int r) H'
theorem ok__law_take (D : Defs K mg) (T : Tx K mg) : FnOk P w K mg base CX0 1 D._law_take.f D._law_take.fd ["_law_box_here", "_law_many"] spTake := by
  refine D._law_take.F.ok scLtake (fun vs H Q E h => ?_) (fun cdv A outer s H vs Q E hr h => ?_)
  · obtain ⟨a, m, rfl, _⟩ := h
    rfl
  · obtain ⟨a, m, rfl, ⟨_, hb, ⟨x, b, n, rfl, x0, b0, b1⟩⟩, m0, m1, k⟩ := h
    have hS : SqL K H a [.int x, .int b, .int n] := SqL.of hb
    refine ⟨_, (pss_cons (ps_if (pt_cmpR op_gt (pe_ix ix_list (pv 0) pe_int (fun _ _ => rfl)) pe_int (nomark _)) (pss_cons (ps_set (i := 2) scLtake.nd rfl (Or.inl rfl) (pe_op op_mod (pe_ix ix_list (pv 0) pe_int (fun _ _ => rfl)) (pv 1)))
        (pss_cons (ps_asg (pe_op op_fdiv (pe_ix ix_list (pv 0) pe_int (fun _ _ => rfl)) (pv 1)) (pg_sub (pv 0) pe_int set_list))
        (pss_one (ps_ret (pv 2))))) pss_nil)
        (pss_cons (ps_asg (pe_op op_add (pe_ix ix_list (pv 0) pe_int (fun _ _ => rfl)) pe_int) (pg_sub (pv 0) pe_int set_list))
        (pss_cons (ps_set (i := 2) scLtake.nd rfl (Or.inl rfl) (pe_op op_mod (pe_op op_add (pe_op op_add (pe_op op_mul (pe_ix ix_list (pv 0) pe_int (fun _ _ => rfl)) pe_int) (pe_op op_mul pe_int (pe_ix ix_list (pv 0) pe_int (fun _ _ => rfl)))) pe_int) pe_int))
        (pss_cons (ps_set (i := 2) scLtake.nd rfl (Or.inl rfl) (pe_op op_mod (pe_op op_add (pe_op op_add (pe_op op_mul (pv 2) (pv 2)) (pe_op op_mul pe_int (pe_ix ix_list (pv 0) pe_int (fun _ _ => rfl)))) pe_int) pe_int))
        (pss_one (ps_ret (pe_op op_mod (pe_op op_mod (pe_op op_mul (pv 2) (pv 2)) pe_int) (pv 1)))))))), ?_⟩
    refine ⟨_, rfl, a, _, _, _, rfl, rfl, hS, at0 _ _ _, _, _, rfl, rfl, _, rfl, ?_⟩
    refine ite2 (fun _ => ?_) (fun _ => ?_)
    · refine ⟨_, rfl, a, _, _, _, rfl, rfl, hS, at0 _ _ _, _, rfl, _, _, rfl, rfl, m0, ?_⟩
      refine ⟨_, rfl, a, _, _, _, rfl, rfl, hS, at0 _ _ _, _, rfl, _, _, rfl, rfl, ⟨m0, m1⟩, ?_⟩
      refine ⟨_, rfl, a, _, _, 0, rfl, rfl, hb, rfl, ?_⟩
      exact ⟨_, rfl, k _ _ (Int.emod_nonneg _ (by omega)) (Int.emod_lt_of_pos _ m0) (Kept.upd ⟨_, _, _, rfl, Int.ediv_nonneg x0 (by omega), b0, b1⟩)⟩
    · refine ⟨_, rfl, a, _, _, _, rfl, rfl, hS, at2 _ _ _, _, _, rfl, rfl, ?_⟩
      refine ⟨_, rfl, a, _, _, 2, rfl, rfl, hb, rfl, ?_⟩
      have hb2 : (upd H a (.lst [.int x, .int b, .int (n + 1)])) a = some (.lst [.int x, .int b, .int (n + 1)]) := upd_same
      have hS2 : SqL K (upd H a (.lst [.int x, .int b, .int (n + 1)])) a [.int x, .int b, .int (n + 1)] := SqL.of hb2
      refine ⟨_, rfl, a, _, _, _, rfl, rfl, hS2, at1 _ _ _, _, _, rfl, rfl, .inr ⟨by decide, by decide⟩, ?_⟩
      refine ⟨_, rfl, a, _, _, _, rfl, rfl, hS2, at2 _ _ _, _, _, rfl, rfl, .inl ⟨by decide, by decide⟩, _, _, rfl, rfl, _, _, rfl, rfl, _, _, rfl, rfl, (by show (0 : Int) < 2147483647; decide), ?_⟩
      generalize hN : (b * 48271 + 7919 * (n + 1) + 101) % 2147483647 = N
      have N0 : 0 ≤ N := by rw [← hN]; exact Int.emod_nonneg _ (by decide)
      have N1 : N < 2147483647 := by rw [← hN]; exact Int.emod_lt_of_pos _ (by decide)
      refine ⟨_, rfl, _, rfl, _, _, rfl, rfl, .inl ⟨by omega, by omega⟩, _, rfl, a, _, _, _, rfl, rfl, hS2, at2 _ _ _, _, _, rfl, rfl, .inl ⟨by decide, by decide⟩, _, _, rfl, rfl, _, _, rfl, rfl, _, _, rfl, rfl, (by show (0 : Int) < 2147483629; decide), ?_⟩
      generalize hM : (N * N + 104729 * (n + 1) + 7) % 2147483629 = M
      have M0 : 0 ≤ M := by rw [← hM]; exact Int.emod_nonneg _ (by decide)
      have M1 : M < 2147483629 := by rw [← hM]; exact Int.emod_lt_of_pos _ (by decide)
      refine ⟨_, rfl, _, rfl, _, _, rfl, rfl, .inl ⟨by omega, by omega⟩, _, _, rfl, rfl, (by show (0 : Int) < 2147483587; decide), _, rfl, _, _, rfl, rfl, m0, ?_⟩
      exact k _ _ (Int.emod_nonneg _ (by omega)) (Int.emod_lt_of_pos _ m0) (Kept.upd ⟨_, _, _, rfl, x0, b0, b1⟩)
end
theorem tyX_d {K : PySem.W.Frag} {H : Hp} {a : Addr} {xs : List (Key × V)} (h : H a = some (.dK xs)) : TyX K H (.ref a) (.type "dict") := .base (.dK h)
section
variable {K : PySem.W.Frag} {H : Hp}
theorem Dz.thing {x : V} {d : PyData} (h : Dz H x d) : Thing K H x := by
  cases h with
  | non => exact .non
  | bl b => exact .bl b
  | int i => exact .int i
  | str z => exact .str z
  | lst h _ => exact .lst (tyX_l h)
  | tup h _ => exact .tup (tyX_t h)
  | dct h => exact .dct (tyX_d h)
  | dct1 h => exact .dct (tyX_d h)
theorem DzAll.thing {xs : List V} {ds : List PyData} (h : DzAll H xs ds) : ∀ u ∈ xs, Thing K H u := by
  induction xs generalizing ds with
  | nil => exact fun u hu => (nomatch hu)
  | cons x xs ih =>
    cases h with
    | cons h t =>
      intro u hu
      rcases List.mem_cons.mp hu with rfl | hu
      · exact h.thing
      · exact ih t u hu
theorem DzAll.len {xs : List V} {ds : List PyData} (h : DzAll H xs ds) : xs.length = ds.length := by
  induction xs generalizing ds with
  | nil => cases h; rfl
  | cons x xs ih =>
    cases h with
    | cons h t => rw [List.length_cons, List.length_cons, ih t]
theorem DzAll.get {xs : List V} {ds : List PyData} (h : DzAll H xs ds) {i : Nat} {x : V} (e : xs[i]? = some x) : ∃ d, ds[i]? = some d ∧ Dz H x d := by
  induction xs generalizing ds i with
  | nil => cases e
  | cons y ys ih =>
    cases h with
    | cons h t =>
      cases i with
      | zero =>
        cases e
        exact ⟨_, rfl, h⟩
      | succ i => exact ih t e
theorem Dz.tupT {x : V} {d : PyData} (h : Dz H x d) : IsTup K H x (match d with | .tuple _ => true | _ => false) := by
  cases h with
  | non => exact .non
  | bl b => exact .bl b
  | int i => exact .int i
  | str z => exact .str z
  | lst h _ => exact .lst (tyX_l h)
  | tup h _ => exact .tup (tyX_t h)
  | dct h => exact .dct (tyX_d h)
  | dct1 h => exact .dct (tyX_d h)
end
/-! ### keys as data -/
def nameD : PyData → Bool
  | .str z => nameOk (.str z)
  | _ => false
def strsD : List PyData → List Str
  | [] => []
  | .str z :: ds => z :: strsD ds
  | _ :: ds => strsD ds
def rowD (ds : List PyData) : Bool := decide (1 ≤ ds.length) && decide (ds.length ≤ 12) && (ds.all nameD && decide (strsD ds).Nodup)
def keysD : PyData → Bool
  | .list ds => rowD ds
  | .tuple ds => rowD ds
  | _ => false
def shortD : PyData → Bool
  | .str z => decide (z.length ≤ 1000)
  | _ => true
def shortK : PyData → Bool
  | .list ds => ds.all shortD
  | .tuple ds => ds.all shortD
  | _ => true
section
variable {K : PySem.W.Frag} {H : Hp}
theorem Dz.short {x : V} {d : PyData} (h : Dz H x d) (s : shortD d = true) : short x := by
  cases h with
  | str z =>
    show z.length ≤ sizeLine
    have := of_decide_eq_true s
    have := PySem.sizeLine_eq
    omega
  | _ => trivial
theorem Dz.nameB {x : V} {d : PyData} (h : Dz H x d) : nameOk x = nameD d := by
  cases h <;> rfl
theorem strs_all {xs : List V} {ds : List PyData} (h : DzAll H xs ds) (a : ds.all nameD = true) : xs = (strsD ds).map V.str ∧ (∀ z ∈ strsD ds, nameOk (.str z) = true) ∧ (strsD ds).length = ds.length := by
  induction ds generalizing xs with
  | nil =>
    cases h
    exact ⟨rfl, (fun z hz => nomatch hz), rfl⟩
  | cons d ds ih =>
    cases h with
    | cons h t =>
      rw [List.all_cons, Bool.and_eq_true] at a
      obtain ⟨e, n, l⟩ := ih t a.2
      cases h with
      | str z =>
        refine ⟨by rw [e]; rfl, fun y hy => ?_, by show (strsD ds).length + 1 = _; rw [l]; rfl⟩
        rcases List.mem_cons.mp hy with rfl | hy
        · exact a.1
        · exact n y hy
      | _ => cases a.1
theorem not_nodup {ks : List Str} (h : ¬ ks.Nodup) : ∃ (i j : Nat) (z : Str), ks[i]? = some z ∧ ks[j]? = some z ∧ i < j := by
  induction ks with
  | nil => exact absurd List.nodup_nil h
  | cons k ks ih =>
    by_cases m : k ∈ ks
    · obtain ⟨j, hj⟩ := List.mem_iff_getElem?.mp m
      exact ⟨0, j + 1, k, rfl, hj, Nat.succ_pos j⟩
    · obtain ⟨i, j, z, h1, h2, lt⟩ := ih fun n => h (List.nodup_cons.mpr ⟨m, n⟩)
      exact ⟨i + 1, j + 1, z, h1, h2, by omega⟩
theorem first_bad : ∀ (ds : List PyData), ds.all nameD = false → ∃ (i : Nat) (d : PyData), ds[i]? = some d ∧ nameD d = false ∧ ∀ (j : Nat) (e : PyData), j < i → ds[j]? = some e → nameD e = true
  | [], h => by cases h
  | d :: ds, h => by
    cases q : nameD d with
    | false => exact ⟨0, d, rfl, q, fun j e lt => absurd lt (Nat.not_lt_zero j)⟩
    | true =>
      rw [List.all_cons, q, Bool.true_and] at h
      obtain ⟨i, e, h1, h2, h3⟩ := first_bad ds h
      refine ⟨i + 1, e, h1, h2, fun j u lt hu => ?_⟩
      cases j with
      | zero => cases hu; exact q
      | succ j => exact h3 j u (by omega) hu
theorem row_keys {a : Addr} {xs : List V} {ds : List PyData} (s : H a = some (.lst xs) ∨ H a = some (.tup xs)) (h : DzAll H xs ds) (sh : ds.all shortD = true) : KeysT K H (.ref a) (rowD ds) := by
  have len := h.len
  unfold rowD
  by_cases l1 : 1 ≤ ds.length
  · by_cases l2 : ds.length ≤ 12
    · rw [decide_eq_true l1, decide_eq_true l2]
      cases al : ds.all nameD with
      | false =>
        obtain ⟨i, d, h1, h2, h3⟩ := first_bad ds al
        have il := (List.getElem?_eq_some_iff.mp h1).1
        have hx : xs[i]? = some xs[i] := List.getElem?_eq_getElem (by omega)
        obtain ⟨d', e1, dz⟩ := h.get hx
        rw [h1] at e1
        cases e1
        refine .bad s (by omega) (fun j u lt hu => ?_) hx dz.thing (dz.short (List.all_eq_true.mp sh d (List.mem_of_getElem? h1))) (by rw [dz.nameB]; exact h2)
        obtain ⟨e, he, de⟩ := h.get hu
        have ne := h3 j e lt he
        cases de with
        | str z => exact ⟨z, rfl, ne⟩
        | _ => cases ne
      | true =>
        obtain ⟨e, n, l⟩ := strs_all h al
        subst e
        by_cases nd : (strsD ds).Nodup
        · rw [decide_eq_true nd]
          exact .good s ⟨nd, by omega, by omega, n⟩
        · rw [decide_eq_false nd]
          obtain ⟨i, j, z, h1, h2, lt⟩ := not_nodup nd
          exact .two s (by omega) n h1 h2 lt
    · rw [decide_eq_false l2, Bool.and_false, Bool.false_and]
      exact .len s (.inr (by omega))
  · rw [decide_eq_false l1, Bool.false_and, Bool.false_and]
    exact .len s (.inl (by omega))
theorem Dz.keysT {x : V} {d : PyData} (h : Dz H x d) (s : shortK d = true) : KeysT K H x (keysD d) := by
  cases h with
  | non => exact .noseq .non
  | bl b => exact .noseq (.bl b)
  | int i => exact .noseq (.int i)
  | str z => exact .noseq (.str z)
  | lst h t => exact row_keys (.inl h) t s
  | tup h t => exact row_keys (.inr h) t s
  | dct h => exact .noseq (.dct (tyX_d h))
  | dct1 h => exact .noseq (.dct (tyX_d h))
end
theorem str_sz {z : Str} (h : ∀ c ∈ z.cps.toList, c < 1114112) {W : Nat} (l : z.length ≤ W) : Sz (.str z) 0 W := by
  refine ⟨by simp only [PyData.showable], ?_, by simp only [PyData.depth]; exact Nat.le_refl _, by simp only [PyData.weight]; exact l⟩
  simp only [PyData.leavesShort]
  rw [List.all_eq_true]
  exact fun c hc => decide_eq_true (Nat.lt_of_lt_of_le (h c hc) (by decide))
end LL
namespace LL
open PySem PySem.Spec PyProof.Rows L2
/-! ### shown data is text that can be laid -/
theorem so_app {a b : Str} (h1 : PyData.strOk a = true) (h2 : PyData.strOk b = true) : PyData.strOk (a ++ b) = true := by
  have e : PyData.strOk (a ++ b) = (a.cps ++ b.cps).all (· < 0x110000) := rfl
  rw [e, Array.all_append]
  have h1 : a.cps.all (· < 0x110000) = true := h1
  have h2 : b.cps.all (· < 0x110000) = true := h2
  rw [h1, h2]
  rfl
theorem so_string (s : String) : PyData.strOk (Str.ofString s) = true := by
  show (Str.ofString s).cps.all (· < 0x110000) = true
  rw [Str.ofString_eq_toList]
  simp only [List.all_toArray, List.all_map, List.all_eq_true, Function.comp_apply, decide_eq_true_eq]
  intro c hc
  have h := c.valid
  simp only [UInt32.isValidChar, Nat.isValidChar] at h
  show c.val.toNat < 0x110000
  omega
theorem so_textFrom : ∀ (ts : List Str) (k : Nat) (acc : Str), PyData.strOk acc = true → (∀ t ∈ ts, PyData.strOk t = true) → PyData.strOk (textFrom k acc ts) = true
  | [], _, _, h, _ => h
  | t :: ts, k, acc, h, ht => by
    unfold textFrom
    exact so_textFrom ts _ _ (so_app (so_app h (so_string _)) (ht t List.mem_cons_self)) fun x hx => ht x (List.mem_cons_of_mem _ hx)
theorem so_join {sep : Str} (hs : PyData.strOk sep = true) : ∀ ts : List Str, (∀ t ∈ ts, PyData.strOk t = true) → PyData.strOk (Str.join sep ts) = true
  | [], _ => (by decide +kernel : PyData.strOk Str.empty = true)
  | [x], h => h x List.mem_cons_self
  | x :: y :: r, h => by
    show PyData.strOk (x ++ sep ++ Str.join sep (y :: r)) = true
    exact so_app (so_app (h x List.mem_cons_self) hs) (so_join hs (y :: r) fun t ht => h t (List.mem_cons_of_mem _ ht))
/-- data whose texts are told as texts that can be laid; no dict but {} -/
inductive TxOk : PyData → Prop
  | non : TxOk .none
  | bl (b : Bool) : TxOk (.bool b)
  | int (i : Int) : TxOk (.int i)
  | str {z : Str} (h : PyData.strOk (reprText z) = true) : TxOk (.str z)
  | lst {ds : List PyData} (h : ∀ d ∈ ds, TxOk d) : TxOk (.list ds)
  | tup {ds : List PyData} (h : ∀ d ∈ ds, TxOk d) : TxOk (.tuple ds)
  | dct : TxOk (.dict [])
theorem mem_shownAll : ∀ {ds : List PyData} {t : Str}, t ∈ PyData.shownAll ds → ∃ d ∈ ds, t = PyData.shown d
  | [], t, h => by
    unfold PyData.shownAll at h
    exact nomatch h
  | d :: ds, t, h => by
    unfold PyData.shownAll at h
    rcases List.mem_cons.mp h with rfl | h
    · exact ⟨d, List.mem_cons_self, rfl⟩
    · obtain ⟨d', m, e⟩ := mem_shownAll h
      exact ⟨d', List.mem_cons_of_mem _ m, e⟩
theorem TxOk.ok {d : PyData} (h : TxOk d) : PyData.strOk d.shown = true := by
  induction h with
  | non => unfold PyData.shown; exact so_string _
  | bl b => unfold PyData.shown; cases b <;> exact so_string _
  | int i => unfold PyData.shown; exact so_string _
  | str h => unfold PyData.shown; exact h
  | lst _ ih =>
    unfold PyData.shown listText
    refine so_app (so_textFrom _ _ _ (so_string _) fun t ht => ?_) (so_string _)
    obtain ⟨d, m, rfl⟩ := mem_shownAll ht
    exact ih d m
  | tup _ ih =>
    unfold PyData.shown tupleText
    refine so_app (so_app (so_string _) (so_join (so_string _) _ fun t ht => ?_)) (so_string _)
    obtain ⟨d, m, rfl⟩ := mem_shownAll ht
    exact ih d m
  | dct => decide +kernel
theorem so_list {ds : List PyData} (h : ∀ d ∈ ds, PyData.strOk d.shown = true) : PyData.strOk (PyData.shown (.list ds)) = true := by
  unfold PyData.shown listText
  refine so_app (so_textFrom _ _ _ (so_string _) fun t ht => ?_) (so_string _)
  obtain ⟨d, m, rfl⟩ := mem_shownAll ht
  exact h d m
theorem so_tup {ds : List PyData} (h : ∀ d ∈ ds, PyData.strOk d.shown = true) : PyData.strOk (PyData.shown (.tuple ds)) = true := by
  unfold PyData.shown tupleText
  refine so_app (so_app (so_string _) (so_join (so_string _) _ fun t ht => ?_)) (so_string _)
  obtain ⟨d, m, rfl⟩ := mem_shownAll ht
  exact h d m
/-- data of a depth and a weight that can be told -/
structure Td (d : PyData) (k W : Nat) : Prop where
  sz : Sz d k W
  ok : PyData.strOk d.shown = true
theorem Td.mono {d : PyData} {k l W U : Nat} (h : Td d k W) (a : k ≤ l) (b : W ≤ U) : Td d l U := ⟨h.sz.mono a b, h.ok⟩
theorem td_int {i : Int} (h : i.natAbs < 10 ^ 12) : Td (.int i) 0 40 := by
  refine ⟨⟨?_, ?_, ?_, ?_⟩, (TxOk.int i).ok⟩
  · simp only [PyData.showable]
    have : i.natAbs.log2 < 1920 := by
      by_cases z : i.natAbs = 0
      · rw [z]; decide +kernel
      · exact (Nat.log2_lt z).mpr (Nat.lt_of_lt_of_le h (by decide +kernel))
    exact decide_eq_true this
  · simp only [PyData.leavesShort]
    exact decide_eq_true (Nat.le_trans (PyData.shown_int_le h) (by decide))
  · simp only [PyData.depth]
    exact Nat.le_refl _
  · simp only [PyData.weight]
    split
    · exact Nat.zero_le _
    · have : i.natAbs.log2 < 40 := by
        by_cases z : i.natAbs = 0
        · rw [z]; decide +kernel
        · exact (Nat.log2_lt z).mpr (Nat.lt_of_lt_of_le h (by decide +kernel))
      omega
theorem td_list {ds : List PyData} {k W : Nat} (h : ∀ d ∈ ds, Td d k W) : Td (.list ds) (k + 1) ((W + 1) * ds.length) := ⟨(szAll_of fun d m => (h d m).sz).list, so_list fun d m => (h d m).ok⟩
theorem td_tup {ds : List PyData} {k W : Nat} (h : ∀ d ∈ ds, Td d k W) : Td (.tuple ds) (k + 1) ((W + 1) * ds.length) := ⟨(szAll_of fun d m => (h d m).sz).tuple, so_tup fun d m => (h d m).ok⟩
theorem td_zero : Td (.int 0) 0 0 := ⟨⟨by decide +kernel, by decide +kernel, by decide +kernel, by decide +kernel⟩, (TxOk.int 0).ok⟩
theorem td_non : Td .none 0 0 := ⟨⟨by decide +kernel, by decide +kernel, by decide +kernel, by decide +kernel⟩, TxOk.non.ok⟩
theorem tx_lits {ds : List PyData} (h : ∀ d ∈ ds, TxOk d) {d : PyData} (m : d ∈ ds) : TxOk d := h d m
end LL
namespace LL
open PySem PySem.Spec PyProof.Rows L2
/-! ### data without lists of three numbers, so that no box is among it -/
def nbL : List PyData → Bool
  | [.int _, .int _, .int _] => false
  | _ => true
mutual
def nbD : PyData → Bool
  | .list ds => nbL ds && nbA ds
  | .tuple ds => nbA ds
  | _ => true
def nbA : List PyData → Bool
  | [] => true
  | d :: ds => nbD d && nbA ds
end
theorem nb_of {H : Hp} {xs : List V} {ds : List PyData} (h : DzAll H xs ds) (n : nbL ds = true) : noBox (.lst xs) = true := by
  unfold noBox
  split
  · rename_i e
    injection e with e
    subst e
    cases h with
    | cons h1 h =>
      cases h with
      | cons h2 h =>
        cases h with
        | cons h3 h =>
          cases h
          cases h1
          cases h2
          cases h3
          cases n
  · rfl
mutual
theorem Dz.kb {b : Addr} {H H' : Hp} (k : Kept b H H') (bx : Bx H b) : ∀ (d : PyData) (v : V), nbD d = true → Dz H v d → Dz H' v d
  | _, _, _, .non => .non
  | _, _, _, .bl b => .bl b
  | _, _, _, .int i => .int i
  | _, _, _, .str x => .str x
  | .list ds, _, n, .lst h t => by
    have n : (nbL ds && nbA ds) = true := by simpa only [nbD] using n
    rw [Bool.and_eq_true] at n
    exact .lst (k.get bx h (nb_of t n.1)) (DzAll.kb k bx _ _ n.2 t)
  | .tuple ds, _, n, .tup h t => .tup (k.get bx h rfl) (DzAll.kb k bx _ _ (by simpa only [nbD] using n) t)
  | _, _, _, .dct h => .dct (k.get bx h rfl)
  | _, _, _, .dct1 h => .dct1 (k.get bx h rfl)
theorem DzAll.kb {b : Addr} {H H' : Hp} (k : Kept b H H') (bx : Bx H b) : ∀ (ds : List PyData) (vs : List V), nbA ds = true → DzAll H vs ds → DzAll H' vs ds
  | _, _, _, .nil => .nil
  | d :: ds, _, n, .cons h t => by
    have n : (nbD d && nbA ds) = true := by simpa only [nbA] using n
    rw [Bool.and_eq_true] at n
    exact .cons (Dz.kb k bx _ _ n.1 h) (DzAll.kb k bx _ _ n.2 t)
end
/-- a thing as data that may be told -/
structure TellD (H : Hp) (x : V) (d : PyData) : Prop where
  dz : Dz H x d
  sz : Sz d 10 2000
  io : intOk d = true
theorem TellD.kept {b : Addr} {H H' : Hp} {x : V} {d : PyData} (h : TellD H x d) (k : Keep H H') : TellD H' x d := ⟨h.dz.keep k, h.sz, h.io⟩
theorem tell_lit {H : Hp} {x : V} {d : PyData} (h : Dz H x d) (a : d.showable = true) (b : d.leavesShort 60 = true) (c : d.depth ≤ 10) (e : d.weight ≤ 2000) (i : intOk d = true) : TellD H x d := ⟨h, ⟨a, b, c, e⟩, i⟩
section
variable {P : Program} {w : World} {K : PySem.W.Frag} {mg : Str → Option Value} {base : Heap} {t1 t2 : Addr}
def spCount : Sp := fun vs H Q _ => ∃ (b : Addr), vs = [.ref b] ∧ Bx H b ∧ ∀ q y g d H', Kept b H H' → H' q = some (.tup [y, .bl g]) → TellD H' y d → within y 1 400 = g → nbD d = true → (∀ al, y = .ref al → H al = none) → Q (.ref q) H'
theorem ok__law_count (D : Defs K mg) (T : Tx K mg) : FnOk P w K mg base CX0 2 D._law_count.f D._law_count.fd ["_law_box_here"] spCount := by
  have G_law_take := ok__law_take (P := P) (w := w) (base := base) D T
  refine D._law_count.F.ok scLcount (fun vs H Q E h => ?_) (fun cdv A outer s H vs Q E hr h => ?_)
  · obtain ⟨b, rfl, _⟩ := h
    rfl
  · obtain ⟨b, rfl, bx, k⟩ := h
    refine ⟨_, (pss_cons (ps_if (pt_cmpR op_gt (pcall D._law_take G_law_take hr (by decide) (by rfl) (pa_cons (pv 0) (pa_cons pe_int pa_nil))) pe_int (nomark _)) (pss_one (ps_ret (pe_tup (pa_cons (pe_ix ix_list (pe_lst (pa_cons pe_int (pa_cons pe_int (pa_cons (pe_op op_add pe_int (pcall D._law_take G_law_take hr (by decide) (by rfl) (pa_cons (pv 0) (pa_cons pe_int pa_nil)))) pa_nil)))) (pcall D._law_take G_law_take hr (by decide) (by rfl) (pa_cons (pv 0) (pa_cons pe_int pa_nil))) (fun _ _ => rfl)) (pa_cons pe_bl pa_nil))))) pss_nil)
        (pss_one (ps_ret (pe_tup (pa_cons (pe_ix ix_list (pe_lst (pa_cons pe_int (pa_cons pe_int (pa_cons (pe_un un_neg pe_int) (pa_cons pe_bl (pa_cons pe_non (pa_cons pe_str (pa_cons (pe_lst (pa_cons pe_int pa_nil)) (pa_cons (pe_op op_pow pe_int pe_int) pa_nil))))))))) (pcall D._law_take G_law_take hr (by decide) (by rfl) (pa_cons (pv 0) (pa_cons pe_int pa_nil))) (fun _ _ => rfl)) (pa_cons pe_bl pa_nil)))))), ?_⟩
    have hst : L2.start scLcount_N [V.ref b] = [some (.ref b)] := rfl
    rw [hst]
    refine ⟨_, rfl, b, 3, rfl, bx, by decide, by decide, fun r H1 r0 r1 k1 => ?_⟩
    refine ⟨_, _, rfl, rfl, _, rfl, ?_⟩
    by_cases c : 0 < r
    · rw [decide_eq_true c]
      refine iteT ?_
      refine ⟨_, rfl, b, 400, rfl, k1.bx, by decide, by decide, fun n H2 n0 n1 k2 => ?_⟩
      obtain ⟨n, rfl⟩ := int_of n0
      refine ⟨_, _, rfl, rfl, (by show 3 ≤ sizeLine; decide), fun p hp => ?_⟩
      generalize hG : upd _ _ _ = H3
      obtain ⟨x3, w3⟩ := obj_of hp hG
      clear hG
      have k3 := (k1.trans k2).trans (x3.kept k2.bx)
      refine ⟨_, rfl, b, 3, rfl, k3.bx, by decide, by decide, fun j H4 j0 j1 k4 => ?_⟩
      have w4 := k4.getN w3 k2.bx hp
      obtain ⟨v, hv, mem⟩ := at_mem (xs := [V.int 1, V.int 400, V.int (1 + (n : Int))]) j0 j1
      refine ⟨p, _, _, _, rfl, rfl, SqL.of w4, hv, (by show 2 ≤ sizeLine; decide), fun q hq => ?_⟩
      generalize hG : upd _ _ _ = H5
      obtain ⟨x5, w5⟩ := obj_of hq hG
      clear hG
      have k5 := (k3.trans k4).trans (x5.kept k4.bx)
      simp only [List.mem_cons, List.not_mem_nil, or_false] at mem
      rcases mem with rfl | rfl | rfl
      · exact k q _ _ (.int 1) H5 k5 w5 (tell_lit (.int _) (by decide +kernel) (by decide +kernel) (by decide +kernel) (by decide +kernel) (by decide +kernel)) rfl (by decide +kernel) (fun _ z => by cases z)
      · exact k q _ _ (.int 400) H5 k5 w5 (tell_lit (.int _) (by decide +kernel) (by decide +kernel) (by decide +kernel) (by decide +kernel) (by decide +kernel)) rfl (by decide +kernel) (fun _ z => by cases z)
      · have e : (1 : Int) + (n : Int) = ((1 + n : Nat) : Int) := by omega
        rw [e] at w5
        refine k q _ _ (.int ((1 + n : Nat) : Int)) H5 k5 w5 ?_ (by simp only [within, Bool.and_eq_true, decide_eq_true_eq]; omega) (by simp only [nbD]) (fun _ z => by cases z)
        have s := td_int (i := ((1 + n : Nat) : Int)) (by have : (((1 + n : Nat) : Int)).natAbs = 1 + n := rfl; omega)
        refine ⟨.int _, s.sz.mono (by decide) (by decide), ?_⟩
        have : (((1 + n : Nat) : Int)).natAbs.log2 < 1920 := by
          by_cases z : (((1 + n : Nat) : Int)).natAbs = 0
          · rw [z]; decide +kernel
          · exact (Nat.log2_lt z).mpr (Nat.lt_of_lt_of_le (show _ < 1000 by have : (((1 + n : Nat) : Int)).natAbs = 1 + n := rfl; omega) (by decide +kernel))
        exact decide_eq_true this
    · rw [decide_eq_false c]
      refine iteF ?_
      try dsimp only [tNext]
      refine ⟨_, rfl, (by show 1 ≤ sizeLine; decide), fun l hl => ?_⟩
      generalize hG : upd _ _ _ = H2
      obtain ⟨x2, w2⟩ := obj_of hl hG
      clear hG
      have k2 := k1.trans (x2.kept k1.bx)
      refine ⟨_, _, rfl, rfl, ⟨by decide, by decide, by decide⟩, (by show 8 ≤ sizeLine; decide), fun p hp => ?_⟩
      generalize hG : upd _ _ _ = H3
      obtain ⟨x3, w3⟩ := obj_of hp hG
      clear hG
      have k3 := k2.trans (x3.kept k2.bx)
      refine ⟨_, rfl, b, 8, rfl, k3.bx, by decide, by decide, fun j H4 j0 j1 k4 => ?_⟩
      have w4 := k4.getN w3 k2.bx hp
      have l4 := k4.get k3.bx (x3 _ _ w2) rfl
      obtain ⟨v, hv, mem⟩ := at_mem (xs := [V.int 0, V.int 401, V.int (-1), V.bl true, V.non, V.str "5", V.ref l, V.int (10 ^ 20)]) j0 j1
      refine ⟨p, _, _, _, rfl, rfl, SqL.of w4, hv, (by show 2 ≤ sizeLine; decide), fun q hq => ?_⟩
      generalize hG : upd _ _ _ = H5
      obtain ⟨x5, w5⟩ := obj_of hq hG
      clear hG
      have k5 := (k3.trans k4).trans (x5.kept k4.bx)
      have zl : H l = none := k1.free hl
      have bad : ∃ d, TellD H5 v d ∧ within v 1 400 = false ∧ nbD d = true ∧ (∀ al, v = .ref al → H al = none) := by
        simp only [List.mem_cons, List.not_mem_nil, or_false] at mem
        rcases mem with rfl | rfl | rfl | rfl | rfl | rfl | rfl | rfl
        · exact ⟨.int 0, tell_lit (.int _) (by decide +kernel) (by decide +kernel) (by decide +kernel) (by decide +kernel) (by decide +kernel), rfl, by decide +kernel, fun _ z => by cases z⟩
        · exact ⟨.int 401, tell_lit (.int _) (by decide +kernel) (by decide +kernel) (by decide +kernel) (by decide +kernel) (by decide +kernel), rfl, by decide +kernel, fun _ z => by cases z⟩
        · exact ⟨.int (-1), tell_lit (.int _) (by decide +kernel) (by decide +kernel) (by decide +kernel) (by decide +kernel) (by decide +kernel), rfl, by decide +kernel, fun _ z => by cases z⟩
        · exact ⟨.bool true, tell_lit (.bl _) (by decide +kernel) (by decide +kernel) (by decide +kernel) (by decide +kernel) (by decide +kernel), rfl, by decide +kernel, fun _ z => by cases z⟩
        · exact ⟨.none, tell_lit .non (by decide +kernel) (by decide +kernel) (by decide +kernel) (by decide +kernel) (by decide +kernel), rfl, by decide +kernel, fun _ z => by cases z⟩
        · exact ⟨.str "5", tell_lit (.str _) (by decide +kernel) (by decide +kernel) (by decide +kernel) (by decide +kernel) (by decide +kernel), rfl, by decide +kernel, fun _ z => by cases z⟩
        · exact ⟨.list [.int 5], tell_lit (.lst (x5 _ _ l4) (.cons (.int _) .nil)) (by decide +kernel) (by decide +kernel) (by decide +kernel) (by decide +kernel) (by decide +kernel), rfl, by decide +kernel, fun _ z => by cases z; exact zl⟩
        · exact ⟨.int (10 ^ 20), tell_lit (.int _) (by decide +kernel) (by decide +kernel) (by decide +kernel) (by decide +kernel) (by decide +kernel), by decide +kernel, by decide +kernel, fun _ z => by cases z⟩
      obtain ⟨d, td, wn, nb, fr⟩ := bad
      exact k q v false d H5 k5 w5 td wn nb fr
end
end LL
namespace LL
open PySem PySem.Spec PyProof.Rows L2
/-- so many z's -/
abbrev zsN (n : Nat) : Str := ofC (List.replicate n 122)
theorem op_mulZ {X : Cx} : OpR X (binaryOp .Mult) (fun x y H Q => ∃ (n : Int), x = .str "z" ∧ y = .int n ∧ 0 ≤ n ∧ n < 9 ∧ Q (.str (zsN n.toNat)) H) := by
  intro pins s σ H x y v u Q I rx ry h
  obtain ⟨n, rfl, rfl, n0, n9, q⟩ := h
  obtain ⟨t, rfl⟩ := rx
  obtain ⟨t', rfl⟩ := ry
  obtain ⟨m, rfl⟩ : ∃ m : Nat, n = (m : Int) := ⟨n.toNat, by omega⟩
  have hm : m < 9 := by omega
  refine PySem.P.mul_str ?_ ?_ ?_ ?_
  · rw [decide_eq_false (by omega), decide_eq_false (by omega)]
    rfl
  · intro _ _ h
    have l1 : ("z" : Str).length = 1 := rfl
    rw [l1] at h
    have h2 : (1 : Int) ≤ (2 ^ 63 - 1) / (m : Int) := (Int.le_ediv_iff_mul_le (by omega)).mpr (by omega)
    omega
  · intro _ _
    have l1 : ("z" : Str).length = 1 := rfl
    rw [l1]
    have l := PySem.sizeLine_eq
    exact decide_eq_false (by omega)
  · have l := PySem.sizeLine_eq
    have e2 : (m : Int).toNat = m := rfl
    rw [e2] at q
    by_cases c0 : m = 0
    · subst c0
      exact ⟨Nat.zero_le _, ⟨.str _, H, I.tok _, ⟨_, rfl⟩, q⟩⟩
    · by_cases c1 : m = 1
      · subst c1
        exact ⟨.str _, H, I, ⟨_, rfl⟩, q⟩
      · rw [if_neg (by omega), if_neg (by
          have l1 : ("z" : Str).length = 1 := rfl
          simp [l1]
          omega)]
        have e : (⟨(List.replicate (m : Int).toNat ("z" : Str).cps).foldl (· ++ ·) #[]⟩ : Str) = zsN m := by
          have al : ∀ m : Nat, m < 9 → (⟨(List.replicate m ("z" : Str).cps).foldl (· ++ ·) #[]⟩ : Str) = zsN m := by decide +kernel
          exact al m hm
        have lm : (zsN m).length = m := by
          show (List.replicate m (122 : Nat)).toArray.size = m
          simp
        rw [e]
        exact ⟨by omega, ⟨.str _, H, I.tok _, ⟨_, rfl⟩, q⟩⟩
theorem nb_str {ds : List PyData} {z : Str} (h : .str z ∈ ds) : nbL ds = true := by
  unfold nbL
  split
  · simp only [List.mem_cons, List.not_mem_nil, or_false] at h
    rcases h with h | h | h <;> cases h
  · rfl
theorem nb_len {ds : List PyData} (h : ds.length ≠ 3) : nbL ds = true := by
  unfold nbL
  split
  · exact absurd rfl h
  · rfl
theorem nba_of {ds : List PyData} (h : ∀ d ∈ ds, nbD d = true) : nbA ds = true := by
  induction ds with
  | nil => simp only [nbA]
  | cons d ds ih =>
    simp only [nbA]
    rw [h d List.mem_cons_self, ih fun e he => h e (List.mem_cons_of_mem _ he)]
    rfl
theorem rowD_bad {ds : List PyData} {d : PyData} (m : d ∈ ds) (n : nameD d = false) : rowD ds = false := by
  have : ds.all nameD = false := by
    rw [List.all_eq_false]
    exact ⟨d, m, by rw [n]; decide⟩
  unfold rowD
  rw [this, Bool.false_and, Bool.and_false]
theorem strsD_map (zs : List Str) : strsD (zs.map PyData.str) = zs := by
  induction zs with
  | nil => rfl
  | cons z zs ih => show z :: strsD (zs.map PyData.str) = _; rw [ih]
theorem rowD_two {zs : List Str} (h : ¬ zs.Nodup) : rowD (zs.map PyData.str) = false := by
  unfold rowD
  rw [strsD_map, decide_eq_false h, Bool.and_false, Bool.and_false]
theorem rowD_long {ds : List PyData} (h : 12 < ds.length) : rowD ds = false := by
  unfold rowD
  rw [decide_eq_false (show ¬ ds.length ≤ 12 by omega), Bool.and_false, Bool.false_and]
theorem cut_to (xs : List V) (k : Nat) : cutV xs none (some (k : Int)) = xs.take k := by
  unfold cutV
  have s1 : HT.sIx xs.length 0 none = 0 := rfl
  have s2 : HT.sIx xs.length xs.length (some (k : Int)) = min k xs.length := HT.sIx_nat _ _ _
  rw [s1, s2, List.drop_zero, Nat.sub_zero]
  rcases Nat.le_total k xs.length with h | h
  · rw [Nat.min_eq_left h]
  · rw [Nat.min_eq_right h, List.take_of_length_le (Nat.le_refl _), List.take_of_length_le h]
theorem cut_from (xs : List V) (k : Nat) (h : k ≤ xs.length) : cutV xs (some (k : Int)) none = xs.drop k := by
  unfold cutV
  have s1 : HT.sIx xs.length 0 (some (k : Int)) = min k xs.length := HT.sIx_nat _ _ _
  have s2 : HT.sIx xs.length xs.length none = xs.length := rfl
  rw [s1, s2, Nat.min_eq_left h, List.take_of_length_le (by rw [List.length_drop]; exact Nat.le_refl _)]
theorem dz_strs {H : Hp} : ∀ zs : List Str, DzAll H (zs.map V.str) (zs.map PyData.str)
  | [] => .nil
  | z :: zs => .cons (.str z) (dz_strs zs)
theorem DzAll.app {H : Hp} {ys : List V} {es : List PyData} (g : DzAll H ys es) : ∀ {xs : List V} {ds : List PyData}, DzAll H xs ds → DzAll H (xs ++ ys) (ds ++ es)
  | _, _, .nil => g
  | _, _, .cons h t => .cons h (g.app t)
/-- what an item of spoilt keys is -/
structure ItemD (d : PyData) : Prop where
  sz : Sz d 2 100
  sh : shortD d = true
  nb : nbD d = true
theorem item_str {z : Str} (h : ∀ c ∈ z.cps.toList, c < 1114112) (l : z.length ≤ 100) : ItemD (.str z) :=
  ⟨(str_sz h l).mono (by decide) (Nat.le_refl _), decide_eq_true (by omega), by simp only [nbD]⟩
theorem spoilt_fin {H : Hp} {q : Addr} {xs : List V} {ds : List PyData} (w : H q = some (.lst xs)) (dz : DzAll H xs ds) (it : ∀ d ∈ ds, ItemD d) (l : ds.length ≤ 14) (nb : nbL ds = true) : TellD H (.ref q) (.list ds) ∧ ds.all shortD = true ∧ nbD (.list ds) = true := by
  refine ⟨⟨.lst w dz, ?_, rfl⟩, List.all_eq_true.mpr fun d hd => (it d hd).sh, ?_⟩
  · refine (szAll_of fun d hd => (it d hd).sz).list.mono (by decide) ?_
    have : (100 + 1) * ds.length ≤ (100 + 1) * 14 := Nat.mul_le_mul_left _ l
    omega
  · simp only [nbD]
    rw [nb, nba_of fun d hd => (it d hd).nb]
    rfl
/-! ### the names that are spoilt -/
def sg (f k : Nat) : Nat := 97 + (f + 5 * k) % 26
def nmS (f m k : Nat) : List Nat := sg f k :: List.replicate m 122
theorem sg_low (f k : Nat) : low (sg f k) := by
  unfold low sg
  omega
theorem nmS_ok {f m k : Nat} (h1 : 1 ≤ m) (h7 : m ≤ 7) : Nm (nmS f m k) where
  low := fun c hc => by
    rcases List.mem_cons.mp hc with rfl | hc
    · exact sg_low _ _
    · rw [(List.mem_replicate.mp hc).2]
      exact ⟨by decide, by decide⟩
  one := by simp [nmS]
  eight := by simp [nmS]; omega
  two := fun c hc => .inl (by
    obtain ⟨m, rfl⟩ : ∃ n, m = n + 1 := ⟨m - 1, by omega⟩
    have : some 122 = some c := hc
    exact (Option.some.inj this).symm)
/-- what tells keys that are none, or good ones -/
structure KeysD (K : PySem.W.Frag) (H : Hp) (x : V) (g : Bool) (d : PyData) : Prop where
  t : TellD H x d
  ks : KeysT K H x g
def spSpoilt : Sp := fun vs H Q _ => ∃ (b : Addr), vs = [.ref b] ∧ Bx H b ∧ ∀ q xs ds H', Kept b H H' → H' q = some (.lst xs) → H q = none → DzAll H' xs ds → TellD H' (.ref q) (.list ds) → rowD ds = false → ds.all shortD = true → nbD (.list ds) = true → Q (.ref q) H'
end LL
namespace LL
open PySem PySem.Spec PyProof.Rows L2
theorem name_no {cs : List Nat} {c : Nat} (m : c ∈ cs) (h : c < 97 ∨ 122 < c) : nameD (.str (ofC cs)) = false := by
  have a : allIn LET (ofC cs) = false := by
    unfold allIn
    rw [ofC_cps, List.all_eq_false]
    refine ⟨c, m, ?_⟩
    have all : ∀ c ∈ LET.cps.toList, 97 ≤ c ∧ c ≤ 122 := by decide +kernel
    intro z
    have := all c (of_decide_eq_true z)
    omega
  show (((decide (1 ≤ ((ofC cs).length : Int)) && decide (((ofC cs).length : Int) ≤ 8)) && allIn LET (ofC cs)) && !decide (ofC cs ∈ ownW)) = false
  rw [a, Bool.and_false, Bool.false_and]
theorem name_long {cs : List Nat} (h : 8 < cs.length) : nameD (.str (ofC cs)) = false := by
  show (((decide (1 ≤ ((ofC cs).length : Int)) && decide (((ofC cs).length : Int) ≤ 8)) && allIn LET (ofC cs)) && !decide (ofC cs ∈ ownW)) = false
  rw [ofC_len, decide_eq_false (show ¬ (cs.length : Int) ≤ 8 by omega), Bool.and_false, Bool.false_and, Bool.false_and]
theorem own_item : ∀ w ∈ ownW, ItemD (.str w) ∧ nameD (.str w) = false := fun w hw => by
  have all : ∀ w ∈ ownW, ((w.cps.toList.all fun c => decide (c < 1114112)) && decide (w.length ≤ 100) && !nameD (.str w)) = true := by decide +kernel
  have h := all w hw
  rw [Bool.and_eq_true, Bool.and_eq_true] at h
  exact ⟨item_str (fun c hc => of_decide_eq_true (List.all_eq_true.mp h.1.1 c hc)) (of_decide_eq_true h.1.2), by simpa using h.2⟩
theorem cut0 {A G : Prop} (use : G → A) (tail : G) : A := use tail
theorem up1 : ∀ k, k < 26 → Txt.upper (ofC [97 + k]) = ofC [65 + k] := by decide +kernel
theorem ofC_from (a : List Nat) (k : Nat) (h : k ≤ a.length) : cutS (ofC a) (some (k : Int)) none = ofC (a.drop k) := by
  unfold cutS
  rw [ofC_cps, ofC_len]
  have s2 : HT.sIx a.length a.length none = a.length := rfl
  rw [s2, HT.sIx_nat, Nat.min_eq_left h]
  show ofC _ = ofC _
  congr 1
  exact List.take_of_length_le (by rw [List.length_drop]; exact Nat.le_refl _)
theorem split_own : Txt.split ("all key days turns last ends now both either but let bar frame find known ask" : Str) " " = ownW := by decide +kernel
theorem nb_vs {f : Nat → Str} (n : Nat) : noBox (.lst ((List.range n).map fun i => V.str (f i))) = true := by
  have h := noBox_strs (ks := (List.range n).map f)
  rw [List.map_map] at h
  exact h
theorem xd_put {H H1 : Hp} {p : Addr} {u : HO} (x : Exd H H1) (hp : H p = none) : Exd H (upd H1 p u) := fun b o e => by
  rw [upd_ne (ne_of_none e hp)]
  exact x _ _ e
section
variable {P : Program} {w : World} {K : PySem.W.Frag} {mg : Str → Option Value} {base : Heap} {t1 t2 : Addr}
theorem ok__law_spoilt_keys (D : Defs K mg) (T : Tx K mg) : FnOk P w K mg base CX0 2 D._law_spoilt_keys.f D._law_spoilt_keys.fd ["_law_box_here"] spSpoilt := by
  have G_law_take := ok__law_take (P := P) (w := w) (base := base) D T
  refine D._law_spoilt_keys.F.ok scLspoiltkeys (fun vs H Q E h => ?_) (fun cdv A outer s H vs Q E hr h => ?_)
  · obtain ⟨b, rfl, _⟩ := h
    rfl
  · obtain ⟨b, rfl, bx, k⟩ := h
    refine ⟨_, (pss_cons (ps_set (i := 1) scLspoiltkeys.nd rfl (Or.inr rfl) pe_str)
        (pss_cons (ps_set (i := 2) scLspoiltkeys.nd rfl (Or.inr rfl) (pcall D._law_take G_law_take hr (by decide) (by rfl) (pa_cons (pv 0) (pa_cons pe_int pa_nil))))
        (pss_cons (ps_set (i := 3) scLspoiltkeys.nd rfl (Or.inl rfl) (pe_op op_add pe_int (pcall D._law_take G_law_take hr (by decide) (by rfl) (pa_cons (pv 0) (pa_cons pe_int pa_nil)))))
        (pss_cons (ps_set (i := 4) scLspoiltkeys.nd rfl (Or.inr rfl) (pe_op op_mulZ pe_str (pv 3)))
        (pss_cons (ps_setLc (i := 5) (own := [("_law_k", 6)]) (g := gName 6) (tt := tYes) rfl scLspoiltkeys.nd rfl rfl (sw_true rfl rfl rfl (by decide +kernel)) (pi_range1 rfl T.b_range (pa_cons (pe_op op_add pe_int (pcall D._law_take G_law_take hr (by decide) (by rfl) (pa_cons (pv 0) (pa_cons pe_int pa_nil)))) pa_nil)) (blkOk_by (N := scLspoiltkeys_N) (sc := defScope scLspoiltkeys_st) (by decide +kernel)) (fun _ _ _ _ _ => (pg_name (i := 6) scLspoiltkeys.nd rfl (Or.inl rfl))) (fun _ _ _ _ _ => pts_nil) (fun _ _ _ _ _ => (pe_ix ix_str (pv 1) (pe_op op_mod (pe_op op_add (pv 2) (pe_op op_mul pe_int (pv 6))) pe_int) (fun _ _ => rfl))))
        (pss_cons (ps_setLc (i := 7) (own := [("_law_sign", 8)]) (g := gName 8) (tt := tYes) rfl scLspoiltkeys.nd rfl rfl (sw_true rfl rfl rfl (by decide +kernel)) (pi_list (pv 5)) (blkOk_by (N := scLspoiltkeys_N) (sc := defScope scLspoiltkeys_st) (by decide +kernel)) (fun _ _ _ _ _ => (pg_name (i := 8) scLspoiltkeys.nd rfl (Or.inl rfl))) (fun _ _ _ _ _ => pts_nil) (fun _ _ _ _ _ => (pe_op op_add_str (pv 8) (pv 4))))
        (pss_cons (ps_set (i := 9) scLspoiltkeys.nd rfl (Or.inl rfl) (pcall D._law_take G_law_take hr (by decide) (by rfl) (pa_cons (pv 0) (pa_cons (pe_callB call_len_seq (by rfl) T.b_len (by decide +kernel) (pa_cons (pv 7) pa_nil)) pa_nil))))
        (pss_cons (ps_set (i := 10) scLspoiltkeys.nd rfl (Or.inl rfl) pe_str)
        (pss_cons (ps_set (i := 11) scLspoiltkeys.nd rfl (Or.inl rfl) (pe_split (pv 10) pe_str))
        (pss_cons (ps_set (i := 12) scLspoiltkeys.nd rfl (Or.inl rfl) (pe_ix ix_list (pv 7) (pv 9) (fun _ _ => rfl)))
        (pss_cons (ps_set (i := 13) scLspoiltkeys.nd rfl (Or.inl rfl) (pe_lst (pa_cons (pe_ix ix_list (pv 11) (pcall D._law_take G_law_take hr (by decide) (by rfl) (pa_cons (pv 0) (pa_cons pe_int pa_nil))) (fun _ _ => rfl)) (pa_cons (pe_op op_add_str (pe_upper (pe_slice sl_str (pv 12) po_none (po_some pe_int))) (pe_slice sl_str (pv 12) (po_some pe_int) po_none)) pa_nil))))
        (pss_cons (ps_set (i := 13) scLspoiltkeys.nd rfl (Or.inl rfl) (pe_op op_cat (pv 13) (pe_lst (pa_cons (pe_op op_add_str (pv 12) (pe_op op_mulZ pe_str (pe_op op_sub pe_int (pe_callB call_len_str (by rfl) T.b_len (by decide +kernel) (pa_cons (pv 12) pa_nil))))) (pa_cons pe_str pa_nil)))))
        (pss_cons (ps_set (i := 13) scLspoiltkeys.nd rfl (Or.inl rfl) (pe_op op_cat (pv 13) (pe_lst (pa_cons (pe_op op_add_str (pv 12) pe_str) (pa_cons (pe_op op_add_str (pe_slice sl_str (pv 12) po_none (po_some pe_int)) pe_str) (pa_cons pe_non (pa_cons (pcall D._law_take G_law_take hr (by decide) (by rfl) (pa_cons (pv 0) (pa_cons pe_int pa_nil))) pa_nil)))))))
        (pss_cons (ps_set (i := 13) scLspoiltkeys.nd rfl (Or.inl rfl) (pe_op op_cat (pv 13) (pe_lst (pa_cons (pe_lst (pa_cons (pv 12) pa_nil)) (pa_cons (pe_op op_add_str (pv 12) pe_str) (pa_cons pe_bl pa_nil))))))
        (pss_cons (ps_set (i := 14) scLspoiltkeys.nd rfl (Or.inl rfl) (pcall D._law_take G_law_take hr (by decide) (by rfl) (pa_cons (pv 0) (pa_cons pe_int pa_nil))))
        (pss_cons (ps_if (pt_cmpR op_eq (pv 14) pe_int (nomark _)) (pss_one (ps_ret (pe_op op_cat (pe_op op_cat (pe_slice sl_list (pv 7) po_none (po_some (pv 9))) (pe_lst (pa_cons (pv 12) pa_nil))) (pe_slice sl_list (pv 7) (po_some (pv 9)) po_none)))) pss_nil)
        (pss_cons (ps_if (PW.pt (pw_and (pt_cmpR op_eq (pv 14) pe_int (nomark _)) (pw_and1 (pt_cmpR op_gt (pe_callB call_len_seq (by rfl) T.b_len (by decide +kernel) (pa_cons (pv 7) pa_nil)) pe_int (nomark _))))) (pss_cons (ps_set (i := 15) scLspoiltkeys.nd rfl (Or.inl rfl) (pe_ix ix_list (pe_op op_cat (pv 7) (pv 7)) (pe_op op_add (pv 9) pe_int) (fun _ _ => rfl)))
        (pss_one (ps_ret (pe_op op_cat (pe_op op_cat (pe_slice sl_list (pv 7) po_none (po_some (pv 9))) (pe_lst (pa_cons (pv 15) pa_nil))) (pe_slice sl_list (pv 7) (po_some (pe_op op_add (pv 9) pe_int)) po_none))))) pss_nil)
        (pss_cons (ps_if (pt_cmpR op_gt (pv 14) pe_int (nomark _)) (pss_cons (ps_setLc (i := 16) (own := [("_law_k", 6)]) (g := gName 6) (tt := tYes) rfl scLspoiltkeys.nd rfl rfl (sw_true rfl rfl rfl (by decide +kernel)) (pi_range1 rfl T.b_range (pa_cons (pe_op op_sub pe_int (pe_callB call_len_seq (by rfl) T.b_len (by decide +kernel) (pa_cons (pv 7) pa_nil))) pa_nil)) (blkOk_by (N := scLspoiltkeys_N) (sc := defScope scLspoiltkeys_st) (by decide +kernel)) (fun _ _ _ _ _ => (pg_name (i := 6) scLspoiltkeys.nd rfl (Or.inl rfl))) (fun _ _ _ _ _ => pts_nil) (fun _ _ _ _ _ => (pe_ix ix_str (pv 1) (pe_op op_mod (pe_op op_add (pe_op op_add (pv 2) (pe_op op_mul pe_int (pv 6))) pe_int) pe_int) (fun _ _ => rfl))))
        (pss_one (ps_ret (pe_op op_cat (pe_op op_cat (pe_slice sl_list (pv 7) po_none (po_some (pv 9))) (pv 16)) (pe_slice sl_list (pv 7) (po_some (pv 9)) po_none))))) pss_nil)
        (pss_one (ps_ret (pe_op op_cat (pe_op op_cat (pe_slice sl_list (pv 7) po_none (po_some (pv 9))) (pe_lst (pa_cons (pe_ix ix_list (pv 13) (pv 14) (fun _ _ => rfl)) pa_nil))) (pe_slice sl_list (pv 7) (po_some (pe_op op_add (pv 9) pe_int)) po_none)))))))))))))))))))))), ?_⟩
    have hst : L2.start scLspoiltkeys_N [V.ref b] = some (.ref b) :: List.replicate 16 none := rfl
    rw [hst]
    try dsimp only [List.replicate]
    have sl : ∀ n : Nat, n ≤ 2000 → n < sizeLine := fun n hn => by
      have := PySem.sizeLine_eq
      omega
    have sl' : ∀ n : Nat, n ≤ 2000 → n ≤ sizeLine := fun n hn => Nat.le_of_lt (sl n hn)
    refine gset (by (simp only [List.set_cons_succ, List.set_cons_zero]); rfl) ?_
    refine ⟨_, rfl, b, 26, rfl, bx, by decide, by decide, fun f H1 f0 f1 k1 => ?_⟩
    obtain ⟨f, rfl⟩ := int_of f0
    refine gset (by (simp only [List.set_cons_succ, List.set_cons_zero]); rfl) ?_
    refine ⟨_, rfl, b, 7, rfl, k1.bx, by decide, by decide, fun m0 H2 s0 s1 k2 => ?_⟩
    obtain ⟨m0, rfl⟩ := int_of s0
    refine ⟨_, _, rfl, rfl, ?_⟩
    refine gset (by (simp only [List.set_cons_succ, List.set_cons_zero]); rfl) ?_
    obtain ⟨m, hm⟩ : ∃ m, m = 1 + m0 := ⟨_, rfl⟩
    rw [show (1 : Int) + (m0 : Int) = (m : Int) by omega]
    have m1 : 1 ≤ m := by omega
    have m7 : m ≤ 7 := by omega
    refine ⟨_, rfl, _, rfl, rfl, by omega, by omega, ?_⟩
    rw [show ((m : Int)).toNat = m from rfl]
    refine gset (by (simp only [List.set_cons_succ, List.set_cons_zero]); rfl) ?_
    refine ⟨_, rfl, b, 12, rfl, k2.bx, by decide, by decide, fun n0 H3 e0 e1 k3 => ?_⟩
    obtain ⟨n0, rfl⟩ := int_of e0
    have k03 := (k1.trans k2).trans k3
    refine ⟨_, _, rfl, rfl, _, rfl, by omega, by omega, fun ds hds => ?_⟩
    obtain ⟨n, hn⟩ : ∃ n, n = (1 + (n0 : Int)).toNat := ⟨_, rfl⟩
    rw [← hn]
    have n1 : 1 ≤ n := by omega
    have n12 : n ≤ 12 := by omega
    refine lc_range (lo := 0) (n := n) (fun j H' => Exd H3 H' ∧ H' ds = some (.lst ((List.range j).map fun i => V.str (ofC [sg f i])))) ⟨(Exd.refl H3).new hds, upd_same⟩ ?_ ?_
    · rintro j H4 hj ⟨x4, w4⟩
      refine ⟨rfl, ?_⟩
      have ej : ((f : Int) + 5 * ((0 : Int) + (j : Int))) % 26 = (((f + 5 * j) % 26 : Nat) : Int) := by omega
      refine ⟨_, rfl, _, rfl, _, rfl, _, _, rfl, rfl, .inl ⟨by decide, by decide⟩, _, _, rfl, rfl, _, _, rfl, rfl, (by show (0 : Int) < 26; decide), _, _, sg f j, rfl, rfl, by show 26 ≤ sizeLine; exact sl' _ (by decide), ?_, _, w4, by rw [List.length_map, List.length_range]; exact sl _ (by omega), xd_put x4 hds, ?_⟩
      · rw [ej]
        exact let_at (Nat.mod_lt _ (by decide))
      · rw [upd_same, List.range_succ, List.map_append]
        rfl
    rintro H4 ⟨x4, w4⟩
    refine gset (by (simp only [List.set_cons_succ, List.set_cons_zero]); rfl) ?_
    refine ⟨_, rfl, ds, rfl, ⟨_, SqL.of w4⟩, fun dk hdk => ?_⟩
    refine lc_list (K := K) (a := ds) (xs := (List.range n).map fun i => V.str (ofC [sg f i])) (fun j H' => Exd H4 H' ∧ H' dk = some (.lst ((List.range j).map fun i => V.str (ofC (nmS f m i))))) ⟨(Exd.refl H4).new hdk, upd_same⟩ (fun j H' _ q => SqL.of (q.1 _ _ w4)) ?_ ?_
    · rintro j x H5 hx ⟨x5, w5⟩
      rw [List.getElem?_map] at hx
      have jn : j < n := by
        cases q : (List.range n)[j]? with
        | none => rw [q] at hx; cases hx
        | some y =>
          have := (List.getElem?_eq_some_iff.mp q).1
          rw [List.length_range] at this
          exact this
      rw [List.getElem?_range jn] at hx
      cases hx
      refine ⟨rfl, ?_⟩
      refine ⟨_, rfl, _, rfl, _, _, rfl, rfl, by rw [ofC_len, ofC_len, List.length_replicate]; exact sl' _ (by show 1 + m ≤ 2000; omega), _, w5, by rw [List.length_map, List.length_range]; exact sl _ (by omega), xd_put x5 hdk, ?_⟩
      rw [upd_same, List.range_succ, List.map_append, ofC_app]
      rfl
    rintro H5 ⟨x5, w5⟩
    rw [List.length_map, List.length_range] at w5
    refine gset (by (simp only [List.set_cons_succ, List.set_cons_zero]); rfl) ?_
    have x35 := x4.trans x5
    have k5 := k03.trans (x35.kept k03.bx)
    have ln : ((List.range n).map fun i => V.str (ofC (nmS f m i))).length = n := by rw [List.length_map, List.length_range]
    refine ⟨_, rfl, _, rfl, dk, _, rfl, .inl (SqL.of w5), b, _, rfl, k5.bx, by rw [ln]; omega, by rw [ln]; omega, fun a H6 a0 a1 k6 => ?_⟩
    rw [ln] at a1
    obtain ⟨a, rfl⟩ := int_of a0
    have an : a < n := by omega
    refine gset (by (simp only [List.set_cons_succ, List.set_cons_zero]); rfl) ?_
    have k06 := k5.trans k6
    have w6 := k6.get k5.bx w5 (nb_vs _)
    generalize hnv : (fun i => V.str (ofC (nmS f m i))) = nv at w6
    refine ⟨_, rfl, ⟨_, rfl⟩, _, _, rfl, rfl, by decide +kernel, Nat.le_trans (show _ ≤ 100 from by decide +kernel) (sl' 100 (by decide)), fun po hpo => ?_⟩
    rw [split_own]
    generalize hG : upd _ _ _ = H7
    obtain ⟨x7, w7⟩ := obj_of hpo hG
    clear hG
    refine gset (by (simp only [List.set_cons_succ, List.set_cons_zero]); rfl) ?_
    have k07 := k06.trans (x7.kept k06.bx)
    have at1 : atI ((List.range n).map nv) (a : Int) = some (nv a) := atI_nat (by rw [List.getElem?_map, List.getElem?_range an]; rfl)
    have nva : nv a = V.str (ofC (nmS f m a)) := by rw [← hnv]
    refine ⟨_, rfl, _, rfl, dk, _, _, _, rfl, rfl, SqL.of (x7 _ _ w6), at1, ?_⟩
    rw [nva]
    refine gset (by (simp only [List.set_cons_succ, List.set_cons_zero]); rfl) ?_
    refine ⟨_, rfl, _, rfl, b, 16, rfl, k07.bx, by decide, by decide, fun r H8 r0 r1 k8 => ?_⟩
    have w8o := k8.get k07.bx w7 noBox_strs
    obtain ⟨vo, hvo, memo⟩ := at_mem (xs := ownW.map V.str) r0 (by rw [List.length_map]; exact r1)
    obtain ⟨wo, hwo, rfl⟩ := List.mem_map.mp memo
    have lz : (ofC (nmS f m a)).length = m + 1 := by rw [ofC_len]; show (List.replicate m 122).length + 1 = _; rw [List.length_replicate]
    have lzs : (ofC (nmS f m a)).length ≤ sizeLine := by rw [lz]; exact sl' _ (by omega)
    have c1 : cutS (ofC (nmS f m a)) none (some 1) = ofC [sg f a] := ofC_cut _ 1
    have c2 : cutS (ofC (nmS f m a)) (some 1) none = ofC (List.replicate m 122) := ofC_from _ 1 (by show 1 ≤ (List.replicate m 122).length + 1; omega)
    have up : Txt.upper (ofC [sg f a]) = ofC [65 + (f + 5 * a) % 26] := up1 _ (Nat.mod_lt _ (by decide))
    refine ⟨po, _, _, _, rfl, rfl, SqL.of w8o, hvo, ?_⟩
    refine ⟨_, rfl, (1 : Int), rfl, _, rfl, lzs, ⟨_, rfl⟩, _, rfl, rfl, by rw [c1, ofC_len]; show 1 ≤ 5592405; decide, _, rfl, (1 : Int), rfl, _, rfl, lzs, _, _, rfl, rfl, by rw [c1, c2, up, ofC_len, ofC_len, List.length_replicate]; exact sl' _ (by show 1 + m ≤ 2000; omega), by show 2 ≤ sizeLine; decide, fun p1 hp1 => ?_⟩
    rw [c1, c2, up, ofC_app]
    have k08 := k07.trans k8
    generalize hG : upd _ _ _ = H9
    obtain ⟨x9, w9⟩ := obj_of hp1 hG
    clear hG
    refine gset (by (simp only [List.set_cons_succ, List.set_cons_zero]); rfl) ?_
    refine ⟨_, rfl, _, rfl, _, rfl, _, rfl, lzs, _, _, rfl, rfl, _, rfl, rfl, by rw [lz]; omega, by rw [lz]; omega, _, _, rfl, rfl, by rw [lz, ofC_len, List.length_replicate]; exact sl' _ (by omega), by show 2 ≤ sizeLine; decide, fun p2 hp2 => ?_⟩
    rw [lz, show ((9 : Int) - ((m + 1 : Nat) : Int)).toNat = 8 - m by omega, ofC_app]
    generalize hG : upd _ _ _ = H10
    obtain ⟨x10, w10⟩ := obj_of hp2 hG
    clear hG
    refine ⟨_, _, _, _, rfl, rfl, x10 _ _ w9, w10, by show 4 ≤ sizeLine; decide, fun p3 hp3 => ?_⟩
    generalize hG : upd _ _ _ = H11
    obtain ⟨x11, w11⟩ := obj_of hp3 hG
    clear hG
    refine gset (by (simp only [List.set_cons_succ, List.set_cons_zero]); rfl) ?_
    have k11 := k08.trans (((x9.trans x10).trans x11).kept k08.bx)
    refine ⟨_, rfl, _, rfl, _, _, rfl, rfl, by rw [lz]; exact sl' _ (by show m + 1 + 1 ≤ 2000; omega), _, rfl, (1 : Int), rfl, _, rfl, lzs, _, _, rfl, rfl, by rw [c1, ofC_len]; exact sl' _ (by show 1 + 1 ≤ 2000; decide), _, rfl, b, 9, rfl, k11.bx, by decide, by decide, fun r2 H12 r20 r21 k12 => ?_⟩
    rw [c1]
    have w12 := k12.get k11.bx w11 rfl
    have k012 := k11.trans k12
    refine ⟨by show 4 ≤ sizeLine; decide, fun p4 hp4 => ?_⟩
    generalize hG : upd _ _ _ = H13
    obtain ⟨x13, w13⟩ := obj_of hp4 hG
    clear hG
    refine ⟨_, _, _, _, rfl, rfl, x13 _ _ w12, w13, by show 8 ≤ sizeLine; decide, fun p5 hp5 => ?_⟩
    generalize hG : upd _ _ _ = H14
    obtain ⟨x14, w14⟩ := obj_of hp5 hG
    clear hG
    refine gset (by (simp only [List.set_cons_succ, List.set_cons_zero]); rfl) ?_
    refine ⟨_, rfl, _, rfl, by show 1 ≤ sizeLine; decide, fun pl hpl => ?_⟩
    generalize hG : upd _ _ _ = H15
    obtain ⟨x15, w15⟩ := obj_of hpl hG
    clear hG
    refine ⟨_, rfl, _, _, rfl, rfl, by rw [lz]; exact sl' _ (by show m + 1 + 1 ≤ 2000; omega), by show 3 ≤ sizeLine; decide, fun p6 hp6 => ?_⟩
    generalize hG : upd _ _ _ = H16
    obtain ⟨x16, w16⟩ := obj_of hp6 hG
    clear hG
    refine ⟨_, _, _, _, rfl, rfl, (x15.trans x16) _ _ w14, w16, by show 11 ≤ sizeLine; decide, fun p7 hp7 => ?_⟩
    generalize hG : upd _ _ _ = H17
    obtain ⟨x17, w17⟩ := obj_of hp7 hG
    clear hG
    refine gset (by (simp only [List.set_cons_succ, List.set_cons_zero]); rfl) ?_
    have x1217 := (((x13.trans x14).trans x15).trans x16).trans x17
    have k17 := k012.trans (x1217.kept k012.bx)
    refine ⟨_, rfl, b, 14, rfl, k17.bx, by decide, by decide, fun way H18 wy0 wy1 k18 => ?_⟩
    obtain ⟨way, rfl⟩ := int_of wy0
    have k018 := k17.trans k18
    have wS := k18.get k17.bx w17 rfl
    have wL := k18.get k17.bx ((x16.trans x17) _ _ w15) rfl
    have wK := k18.get k17.bx (x1217 _ _ (k12.get k11.bx (((x9.trans x10).trans x11) _ _ (k8.get k07.bx (x7 _ _ w6) (by rw [← hnv]; exact nb_vs _))) (by rw [← hnv]; exact nb_vs _))) (by rw [← hnv]; exact nb_vs _)
    refine gset (by (simp only [List.set_cons_succ, List.set_cons_zero]); rfl) ?_
    clear k1 k2 k3 k5 k6 k8 k12 k17 k18 k03 k06 k07 k08 k11 k012 x4 x5 x35 x7 x9 x10 x11 x13 x14 x15 x16 x17 x1217 w4 w5 w6 w7 w9 w10 w11 w12 w13 w14 w15 w16 w17 hvo w8o hds hdk hpo hp1 hp2 hp3 hp4 hp5 hp6 hp7 hpl
    obtain ⟨Z, hZ⟩ : ∃ Z : List Str, Z = (List.range n).map fun i => ofC (nmS f m i) := ⟨_, rfl⟩
    have wK : H18 dk = some (.lst (Z.map V.str)) := by
      rw [wK, hZ, List.map_map, ← hnv]
      rfl
    have lZ : Z.length = n := by rw [hZ, List.length_map, List.length_range]
    have Za : Z[a]? = some (ofC (nmS f m a)) := by rw [hZ, List.getElem?_map, List.getElem?_range an]; rfl
    have okZ : ∀ z ∈ Z, ItemD (.str z) := fun z hz => by
      rw [hZ] at hz
      obtain ⟨i, _, rfl⟩ := List.mem_map.mp hz
      have nm := nmS_ok (f := f) (k := i) m1 m7
      exact item_str (fun c hc => by rw [ofC_cps] at hc; have := (nm.low c hc).2; omega) (by rw [ofC_len]; have := nm.eight; omega)
    have okz := okZ _ (List.mem_of_getElem? Za)
    -- slices
    have cutT : cutV (Z.map V.str) none (some (a : Int)) = (Z.take a).map V.str := by rw [cut_to, List.map_take]
    have cutF : ∀ j : Nat, j ≤ n → cutV (Z.map V.str) (some (j : Int)) none = (Z.drop j).map V.str := fun j hj => by rw [cut_from _ _ (by rw [List.length_map, lZ]; exact hj), List.map_drop]
    have lT : ((Z.take a).map V.str).length = a := by rw [List.length_map, List.length_take, lZ]; omega
    have lF : ∀ j, ((Z.drop j).map V.str).length = n - j := fun j => by rw [List.length_map, List.length_drop, lZ]
    have mTF : ∀ (j : Nat) (z : Str), z ∈ Z.take a ∨ z ∈ Z.drop j → z ∈ Z := fun j z h => h.elim List.mem_of_mem_take List.mem_of_mem_drop
    refine ⟨_, rfl, rfl, _, rfl, ?_⟩
    rw [dec_int]
    by_cases y11 : (way : Int) = 11
    · rw [beq_iff_eq.mpr y11]
      refine iteT ?_
      refine ⟨_, rfl, _, rfl, (a : Int), rfl, dk, _, rfl, SqL.of wK, fun q1 hq1 => ?_⟩
      rw [cutT]
      generalize hG : upd _ _ _ = G1
      obtain ⟨y1, v1⟩ := obj_of hq1 hG
      clear hG
      refine ⟨_, rfl, by show 1 ≤ sizeLine; decide, fun q2 hq2 => ?_⟩
      generalize hG : upd _ _ _ = G2
      obtain ⟨y2, v2⟩ := obj_of hq2 hG
      clear hG
      refine ⟨_, _, _, _, rfl, rfl, y2 _ _ v1, v2, by rw [lT]; exact sl' _ (by show a + 1 ≤ 2000; omega), fun q3 hq3 => ?_⟩
      generalize hG : upd _ _ _ = G3
      obtain ⟨y3, v3⟩ := obj_of hq3 hG
      clear hG
      refine ⟨_, rfl, _, rfl, (a : Int), rfl, dk, _, rfl, SqL.of (((y1.trans y2).trans y3) _ _ wK), fun q4 hq4 => ?_⟩
      rw [cutF a (by omega)]
      generalize hG : upd _ _ _ = G4
      obtain ⟨y4, v4⟩ := obj_of hq4 hG
      clear hG
      refine ⟨_, _, _, _, rfl, rfl, y4 _ _ v3, v4, by rw [List.length_append, lT, lF]; exact sl' _ (by show a + 1 + (n - a) ≤ 2000; omega), fun q5 hq5 => ?_⟩
      generalize hG : upd _ _ _ = G5
      obtain ⟨y5, v5⟩ := obj_of hq5 hG
      clear hG
      have kk := k018.trans (((((y1.trans y2).trans y3).trans y4).trans y5).kept k018.bx)
      have dz : DzAll G5 ((Z.take a).map V.str ++ [V.str (ofC (nmS f m a))] ++ (Z.drop a).map V.str) (((Z.take a) ++ [ofC (nmS f m a)] ++ Z.drop a).map PyData.str) := by
        rw [List.map_append, List.map_append]
        exact DzAll.app (dz_strs _) (DzAll.app (.cons (.str _) .nil) (dz_strs _))
      have it : ∀ d ∈ ((Z.take a) ++ [ofC (nmS f m a)] ++ Z.drop a).map PyData.str, ItemD d := fun d hd => by
        obtain ⟨z, hz, rfl⟩ := List.mem_map.mp hd
        rcases List.mem_append.mp hz with hz | hz
        · rcases List.mem_append.mp hz with hz | hz
          · exact okZ z (mTF a z (.inl hz))
          · rw [List.mem_singleton.mp hz]
            exact okz
        · exact okZ z (mTF a z (.inr hz))
      obtain ⟨td, sh, nb⟩ := spoilt_fin v5 dz it (by rw [List.length_map, List.length_append, List.length_append, List.length_take, List.length_drop, lZ]; show _ + 1 + _ ≤ 14; omega) (nb_str (z := ofC (nmS f m a)) (List.mem_map.mpr ⟨_, by simp, rfl⟩))
      refine k q5 _ _ G5 kk v5 (k018.free ((((y1.trans y2).trans y3).trans y4).free hq5)) dz td (rowD_two fun nd => ?_) sh nb
      have e1 : ((Z.take a) ++ [ofC (nmS f m a)] ++ Z.drop a)[a]? = some (ofC (nmS f m a)) := by
        rw [List.getElem?_append_left (by rw [List.length_append, List.length_take, lZ]; show a < _ + 1; omega), List.getElem?_append_right (by rw [List.length_take, lZ]; omega), List.length_take, lZ, show a - min a n = 0 by omega]
        rfl
      have e2 : ((Z.take a) ++ [ofC (nmS f m a)] ++ Z.drop a)[a + 1]? = some (ofC (nmS f m a)) := by
        rw [List.getElem?_append_right (by rw [List.length_append, List.length_take, lZ]; show _ + 1 ≤ a + 1; omega), List.length_append, List.length_take, lZ, List.getElem?_drop, show a + (a + 1 - (min a n + [ofC (nmS f m a)].length)) = a by show a + (a + 1 - (min a n + 1)) = a; omega]
        exact Za
      have := (List.getElem?_inj (List.getElem?_eq_some_iff.mp e1).1 nd).mp (e1.trans e2.symm)
      omega
    · rw [beq_eq_false_iff_ne.mpr y11]
      refine iteF ?_
      try dsimp only [tNext]
      refine ⟨_, rfl, rfl, _, rfl, ?_⟩
      rw [dec_int]
      by_cases y12 : (way : Int) = 12 ∧ 1 < n
      · obtain ⟨y12, ny⟩ := y12
        rw [beq_iff_eq.mpr y12]
        refine iteT ?_
        refine ⟨_, rfl, dk, _, rfl, .inl (SqL.of wK), _, _, rfl, rfl, _, rfl, ?_⟩
        rw [List.length_map, lZ, decide_eq_true (by omega)]
        refine iteT ?_
        refine ⟨_, rfl, _, rfl, dk, dk, _, _, rfl, rfl, wK, wK, by rw [List.length_map, lZ]; exact sl' _ (by omega), fun q0 hq0 => ?_⟩
        generalize hG : upd _ _ _ = G0
        obtain ⟨y0, v0⟩ := obj_of hq0 hG
        clear hG
        obtain ⟨zo, j, hj, hzo, hat⟩ : ∃ (zo : Str) (j : Nat), Z[j]? = some zo ∧ ((a + 1 < n ∧ j = a + 1) ∨ (a + 1 = n ∧ j = 0)) ∧ atI (Z.map V.str ++ Z.map V.str) ((a : Int) + 1) = some (.str zo) := by
          rcases Nat.lt_or_ge (a + 1) n with la | la
          · refine ⟨Z[a + 1], a + 1, List.getElem?_eq_getElem (by omega), .inl ⟨la, rfl⟩, atI_nat (j := a + 1) ?_⟩
            rw [List.getElem?_append_left (by rw [List.length_map]; omega), List.getElem?_map, List.getElem?_eq_getElem (by omega)]
            rfl
          · refine ⟨Z[0], 0, List.getElem?_eq_getElem (by omega), .inr ⟨by omega, rfl⟩, atI_nat (j := a + 1) ?_⟩
            rw [List.getElem?_append_right (by rw [List.length_map]; omega), List.length_map, show a + 1 - Z.length = 0 by omega, List.getElem?_map, List.getElem?_eq_getElem (by omega)]
            rfl
        refine ⟨_, rfl, _, _, rfl, rfl, q0, _, _, _, rfl, rfl, SqL.of v0, hat, ?_⟩
        refine gset (by (simp only [List.set_cons_succ, List.set_cons_zero]); rfl) ?_
        have okO := okZ zo (List.mem_of_getElem? hj)
        refine ⟨_, rfl, _, rfl, (a : Int), rfl, dk, _, rfl, SqL.of (y0 _ _ wK), fun q1 hq1 => ?_⟩
        rw [cutT]
        generalize hG : upd _ _ _ = G1
        obtain ⟨y1, v1⟩ := obj_of hq1 hG
        clear hG
        refine ⟨_, rfl, by show 1 ≤ sizeLine; decide, fun q2 hq2 => ?_⟩
        generalize hG : upd _ _ _ = G2
        obtain ⟨y2, v2⟩ := obj_of hq2 hG
        clear hG
        refine ⟨_, _, _, _, rfl, rfl, y2 _ _ v1, v2, by rw [lT]; exact sl' _ (by show a + 1 ≤ 2000; omega), fun q3 hq3 => ?_⟩
        generalize hG : upd _ _ _ = G3
        obtain ⟨y3, v3⟩ := obj_of hq3 hG
        clear hG
        refine ⟨_, rfl, _, rfl, _, _, rfl, rfl, ((a + 1 : Nat) : Int), rfl, dk, _, rfl, SqL.of ((((y0.trans y1).trans y2).trans y3) _ _ wK), fun q4 hq4 => ?_⟩
        rw [cutF (a + 1) (by omega)]
        generalize hG : upd _ _ _ = G4
        obtain ⟨y4, v4⟩ := obj_of hq4 hG
        clear hG
        refine ⟨_, _, _, _, rfl, rfl, y4 _ _ v3, v4, by rw [List.length_append, lT, lF]; exact sl' _ (by show a + 1 + (n - (a + 1)) ≤ 2000; omega), fun q5 hq5 => ?_⟩
        generalize hG : upd _ _ _ = G5
        obtain ⟨y5, v5⟩ := obj_of hq5 hG
        clear hG
        have kk := k018.trans ((((((y0.trans y1).trans y2).trans y3).trans y4).trans y5).kept k018.bx)
        have dz : DzAll G5 ((Z.take a).map V.str ++ [V.str zo] ++ (Z.drop (a + 1)).map V.str) (((Z.take a) ++ [zo] ++ Z.drop (a + 1)).map PyData.str) := by
          rw [List.map_append, List.map_append]
          exact DzAll.app (dz_strs _) (DzAll.app (.cons (.str _) .nil) (dz_strs _))
        have it : ∀ d ∈ ((Z.take a) ++ [zo] ++ Z.drop (a + 1)).map PyData.str, ItemD d := fun d hd => by
          obtain ⟨z, hz, rfl⟩ := List.mem_map.mp hd
          rcases List.mem_append.mp hz with hz | hz
          · rcases List.mem_append.mp hz with hz | hz
            · exact okZ z (mTF a z (.inl hz))
            · rw [List.mem_singleton.mp hz]
              exact okO
          · exact okZ z (mTF (a + 1) z (.inr hz))
        obtain ⟨td, sh, nb⟩ := spoilt_fin v5 dz it (by rw [List.length_map, List.length_append, List.length_append, List.length_take, List.length_drop, lZ]; show _ + 1 + _ ≤ 14; omega) (nb_str (z := zo) (List.mem_map.mpr ⟨_, by simp, rfl⟩))
        refine k q5 _ _ G5 kk v5 (k018.free (((((y0.trans y1).trans y2).trans y3).trans y4).free hq5)) dz td (rowD_two fun nd => ?_) sh nb
        have e1 : ((Z.take a) ++ [zo] ++ Z.drop (a + 1))[a]? = some zo := by
          rw [List.getElem?_append_left (by rw [List.length_append, List.length_take, lZ]; show a < _ + 1; omega), List.getElem?_append_right (by rw [List.length_take, lZ]; omega), List.length_take, lZ, show a - min a n = 0 by omega]
          rfl
        rcases hzo with ⟨la, rfl⟩ | ⟨la, rfl⟩
        · have e2 : ((Z.take a) ++ [zo] ++ Z.drop (a + 1))[a + 1]? = some zo := by
            rw [List.getElem?_append_right (by rw [List.length_append, List.length_take, lZ]; show _ + 1 ≤ a + 1; omega), List.length_append, List.length_take, lZ, List.getElem?_drop, show a + 1 + (a + 1 - (min a n + [zo].length)) = a + 1 by show a + 1 + (a + 1 - (min a n + 1)) = a + 1; omega]
            exact hj
          have := (List.getElem?_inj (List.getElem?_eq_some_iff.mp e1).1 nd).mp (e1.trans e2.symm)
          omega
        · have e2 : ((Z.take a) ++ [zo] ++ Z.drop (a + 1))[0]? = some zo := by
            rw [List.getElem?_append_left (by rw [List.length_append]; show 0 < _ + 1; omega), List.getElem?_append_left (by rw [List.length_take, lZ]; omega), List.getElem?_take, if_pos (by omega)]
            exact hj
          have := (List.getElem?_inj (List.getElem?_eq_some_iff.mp e1).1 nd).mp (e1.trans e2.symm)
          omega
      · have ny0 : (way : Int) = 12 → ¬ (1 : Int) < (n : Int) := fun e h => y12 ⟨e, by omega⟩
        apply cut0
        · intro tl
          rcases Classical.em ((way : Int) = 12) with e12 | e12
          · rw [beq_iff_eq.mpr e12]
            refine iteT ?_
            refine ⟨_, rfl, dk, _, rfl, .inl (SqL.of wK), _, _, rfl, rfl, _, rfl, ?_⟩
            rw [List.length_map, lZ, decide_eq_false (ny0 e12)]
            refine iteF ?_
            exact tl
          · rw [beq_eq_false_iff_ne.mpr e12]
            refine iteF (iteF ?_)
            exact tl
        try dsimp only [tNext]
        refine ⟨_, rfl, _, _, rfl, rfl, _, rfl, ?_⟩
        by_cases y13 : (11 : Int) < (way : Int)
        · rw [decide_eq_true y13]
          refine iteT ?_
          refine ⟨_, rfl, dk, _, rfl, .inl (SqL.of wK), _, _, rfl, rfl, _, rfl, ?_⟩
          refine ⟨by rw [List.length_map, lZ]; omega, by rw [List.length_map, lZ]; omega, fun dm hdm => ?_⟩
          obtain ⟨n2, hn2⟩ : ∃ n2, n2 = ((13 : Int) - (((Z.map V.str).length : Nat) : Int)).toNat := ⟨_, rfl⟩
          rw [← hn2]
          have hn2 : n2 = 13 - n := by rw [hn2, List.length_map, lZ]; omega
          refine lc_range (lo := 0) (n := n2) (fun j H' => Exd H18 H' ∧ H' dm = some (.lst ((List.range j).map fun i => V.str (ofC [97 + (f + 5 * i + 60) % 26])))) ⟨(Exd.refl H18).new hdm, upd_same⟩ ?_ ?_
          · rintro j G0 hj ⟨y0, v0⟩
            refine ⟨rfl, ?_⟩
            have ej : ((f : Int) + 5 * ((0 : Int) + (j : Int)) + 60) % 26 = (((f + 5 * j + 60) % 26 : Nat) : Int) := by omega
            refine ⟨_, rfl, _, rfl, _, rfl, _, _, rfl, rfl, .inl ⟨by decide, by decide⟩, _, _, rfl, rfl, _, _, rfl, rfl, _, _, rfl, rfl, (by show (0 : Int) < 26; decide), _, _, 97 + (f + 5 * j + 60) % 26, rfl, rfl, by show 26 ≤ sizeLine; exact sl' _ (by decide), ?_, _, v0, by rw [List.length_map, List.length_range]; exact sl _ (by omega), xd_put y0 hdm, ?_⟩
            · rw [ej]
              exact let_at (Nat.mod_lt _ (by decide))
            · rw [upd_same, List.range_succ, List.map_append]
              rfl
          rintro G0 ⟨y0, v0⟩
          refine gset (by (simp only [List.set_cons_succ, List.set_cons_zero]); rfl) ?_
          obtain ⟨M, hM⟩ : ∃ M : List Str, M = (List.range n2).map fun i => ofC [97 + (f + 5 * i + 60) % 26] := ⟨_, rfl⟩
          have v0 : G0 dm = some (.lst (M.map V.str)) := by
            rw [v0, hM, List.map_map]
            rfl
          have lM : M.length = n2 := by rw [hM, List.length_map, List.length_range]
          have okM : ∀ z ∈ M, ItemD (.str z) := fun z hz => by
            rw [hM] at hz
            obtain ⟨i, _, rfl⟩ := List.mem_map.mp hz
            exact item_str (fun c hc => by rw [ofC_cps] at hc; rw [List.mem_singleton.mp hc]; omega) (by rw [ofC_len]; show 1 ≤ 100; decide)
          refine ⟨_, rfl, _, rfl, (a : Int), rfl, dk, _, rfl, SqL.of (y0 _ _ wK), fun q1 hq1 => ?_⟩
          rw [cutT]
          generalize hG : upd _ _ _ = G1
          obtain ⟨y1, v1⟩ := obj_of hq1 hG
          clear hG
          refine ⟨_, rfl, _, _, _, _, rfl, rfl, v1, y1 _ _ v0, by rw [lT, List.length_map, lM]; exact sl' _ (by omega), fun q3 hq3 => ?_⟩
          generalize hG : upd _ _ _ = G3
          obtain ⟨y3, v3⟩ := obj_of hq3 hG
          clear hG
          refine ⟨_, rfl, _, rfl, (a : Int), rfl, dk, _, rfl, SqL.of (((y0.trans y1).trans y3) _ _ wK), fun q4 hq4 => ?_⟩
          rw [cutF a (by omega)]
          generalize hG : upd _ _ _ = G4
          obtain ⟨y4, v4⟩ := obj_of hq4 hG
          clear hG
          refine ⟨_, _, _, _, rfl, rfl, y4 _ _ v3, v4, by rw [List.length_append, lT, lF, List.length_map, lM]; exact sl' _ (by omega), fun q5 hq5 => ?_⟩
          generalize hG : upd _ _ _ = G5
          obtain ⟨y5, v5⟩ := obj_of hq5 hG
          clear hG
          have kk := k018.trans (((((y0.trans y1).trans y3).trans y4).trans y5).kept k018.bx)
          have dz : DzAll G5 ((Z.take a).map V.str ++ M.map V.str ++ (Z.drop a).map V.str) (((Z.take a) ++ M ++ Z.drop a).map PyData.str) := by
            rw [List.map_append, List.map_append]
            exact DzAll.app (dz_strs _) (DzAll.app (dz_strs _) (dz_strs _))
          have it : ∀ d ∈ ((Z.take a) ++ M ++ Z.drop a).map PyData.str, ItemD d := fun d hd => by
            obtain ⟨z, hz, rfl⟩ := List.mem_map.mp hd
            rcases List.mem_append.mp hz with hz | hz
            · rcases List.mem_append.mp hz with hz | hz
              · exact okZ z (mTF a z (.inl hz))
              · exact okM z hz
            · exact okZ z (mTF a z (.inr hz))
          have l13 : (((Z.take a) ++ M ++ Z.drop a).map PyData.str).length = 13 := by
            rw [List.length_map, List.length_append, List.length_append, List.length_take, List.length_drop, lZ, lM]
            omega
          obtain ⟨td, sh, nb⟩ := spoilt_fin v5 dz it (by rw [l13]; decide) (nb_len (by rw [l13]; decide))
          exact k q5 _ _ G5 kk v5 (k018.free ((((y0.trans y1).trans y3).trans y4).free hq5)) dz td (rowD_long (by rw [l13]; decide)) sh nb
        · rw [decide_eq_false y13]
          refine iteF ?_
          try dsimp only [tNext]
          have wy11 : way < 11 := by omega
          obtain ⟨v, hv, mem⟩ := at_mem (xs := [V.str wo, .str (ofC ([65 + (f + 5 * a) % 26] ++ List.replicate m 122))] ++ [V.str (ofC (nmS f m a ++ List.replicate (8 - m) 122)), .str ""] ++ [V.str (ofC (nmS f m a) ++ "\n"), .str (ofC [sg f a] ++ "1"), .non, .int r2] ++ [V.ref pl, .str (ofC (nmS f m a) ++ " "), .bl true]) (r := (way : Int)) (by omega) (by show (way : Int) < 11; omega)
          have app : ∀ (cs : List Nat) (c : Nat) (z : Str), z = ofC [c] → ofC cs ++ z = ofC (cs ++ [c]) := fun cs c z e => by rw [e, ofC_app]
          rw [app _ 10 "\n" rfl, app _ 49 "1" rfl, app _ 32 " " rfl] at *
          have nm := nmS_ok (f := f) (k := a) m1 m7
          have lown : ∀ (cs : List Nat), (∀ c ∈ cs, c < 1114112) → cs.length ≤ 100 → ItemD (.str (ofC cs)) := fun cs h l => item_str (fun c hc => h c (by rw [ofC_cps] at hc; exact hc)) (by rw [ofC_len]; exact l)
          have lnm : ∀ c ∈ nmS f m a, c < 1114112 := fun c hc => by have := (nm.low c hc).2; omega
          have l8 := nm.eight
          have bad : ∃ d, (∀ G, Exd H18 G → Dz G v d) ∧ ItemD d ∧ nameD d = false := by
            simp only [List.mem_append, List.mem_cons, List.not_mem_nil, or_false] at mem
            rcases mem with (((rfl | rfl) | (rfl | rfl)) | (rfl | rfl | rfl | rfl)) | (rfl | rfl | rfl)
            · obtain ⟨i1, i2⟩ := own_item wo hwo
              exact ⟨.str wo, fun _ _ => .str _, i1, i2⟩
            · refine ⟨_, fun _ _ => .str _, lown _ (fun c hc => ?_) ?_, name_no (c := 65 + (f + 5 * a) % 26) (by simp) (.inl (by omega))⟩
              · rcases List.mem_append.mp hc with hc | hc
                · rw [List.mem_singleton.mp hc]; omega
                · rw [(List.mem_replicate.mp hc).2]; decide
              · rw [List.length_append, List.length_replicate]
                show 1 + m ≤ 100
                omega
            · refine ⟨_, fun _ _ => .str _, lown _ (fun c hc => ?_) ?_, name_long ?_⟩
              · rcases List.mem_append.mp hc with hc | hc
                · exact lnm c hc
                · rw [(List.mem_replicate.mp hc).2]; decide
              · rw [List.length_append, List.length_replicate]
                omega
              · rw [List.length_append, List.length_replicate]
                show 8 < (List.replicate m 122).length + 1 + (8 - m)
                rw [List.length_replicate]
                omega
            · exact ⟨.str "", fun _ _ => .str _, ⟨⟨by decide +kernel, by decide +kernel, by decide +kernel, by decide +kernel⟩, by decide +kernel, by decide +kernel⟩, by decide +kernel⟩
            · refine ⟨_, fun _ _ => .str _, lown _ (fun c hc => ?_) ?_, name_no (c := 10) (by simp) (.inl (by decide))⟩
              · rcases List.mem_append.mp hc with hc | hc
                · exact lnm c hc
                · rw [List.mem_singleton.mp hc]; decide
              · rw [List.length_append]
                show _ + 1 ≤ 100
                omega
            · refine ⟨_, fun _ _ => .str _, lown _ (fun c hc => ?_) ?_, name_no (c := 49) (by simp) (.inl (by decide))⟩
              · rcases List.mem_append.mp hc with hc | hc
                · rw [List.mem_singleton.mp hc]; have := (sg_low f a).2; omega
                · rw [List.mem_singleton.mp hc]; decide
              · show 2 ≤ 100
                decide
            · exact ⟨.none, fun _ _ => .non, ⟨⟨by decide +kernel, by decide +kernel, by decide +kernel, by decide +kernel⟩, by decide +kernel, by decide +kernel⟩, rfl⟩
            · refine ⟨.int r2, fun _ _ => .int _, ⟨(td_int (by omega)).sz.mono (by decide) (by decide), rfl, by simp only [nbD]⟩, rfl⟩
            · refine ⟨.list [.str (ofC (nmS f m a))], fun G x => .lst (x _ _ wL) (.cons (.str _) .nil), ⟨?_, rfl, by simp only [nbD, nbA, nbL, Bool.and_self]⟩, rfl⟩
              exact (szAll_of (ds := [.str (ofC (nmS f m a))]) (k := 0) (W := 10) fun d hd => by rw [List.mem_singleton.mp hd]; exact str_sz (fun c hc => lnm c (by rw [ofC_cps] at hc; exact hc)) (by rw [ofC_len]; omega)).list.mono (by decide) (by show 11 * 1 ≤ 100; decide)
            · refine ⟨_, fun _ _ => .str _, lown _ (fun c hc => ?_) ?_, name_no (c := 32) (by simp) (.inl (by decide))⟩
              · rcases List.mem_append.mp hc with hc | hc
                · exact lnm c hc
                · rw [List.mem_singleton.mp hc]; decide
              · rw [List.length_append]
                show _ + 1 ≤ 100
                omega
            · exact ⟨.bool true, fun _ _ => .bl _, ⟨⟨by decide +kernel, by decide +kernel, by decide +kernel, by decide +kernel⟩, by decide +kernel, by decide +kernel⟩, rfl⟩
          obtain ⟨dv, dzv, iv, nv2⟩ := bad
          refine ⟨_, rfl, _, rfl, (a : Int), rfl, dk, _, rfl, SqL.of wK, fun q1 hq1 => ?_⟩
          rw [cutT]
          generalize hG : upd _ _ _ = G1
          obtain ⟨y1, v1⟩ := obj_of hq1 hG
          clear hG
          refine ⟨_, rfl, _, rfl, p7, _, _, _, rfl, rfl, SqL.of (y1 _ _ wS), hv, by show 1 ≤ sizeLine; decide, fun q2 hq2 => ?_⟩
          generalize hG : upd _ _ _ = G2
          obtain ⟨y2, v2⟩ := obj_of hq2 hG
          clear hG
          refine ⟨_, _, _, _, rfl, rfl, y2 _ _ v1, v2, by rw [lT]; exact sl' _ (by show a + 1 ≤ 2000; omega), fun q3 hq3 => ?_⟩
          generalize hG : upd _ _ _ = G3
          obtain ⟨y3, v3⟩ := obj_of hq3 hG
          clear hG
          refine ⟨_, rfl, _, rfl, _, _, rfl, rfl, ((a + 1 : Nat) : Int), rfl, dk, _, rfl, SqL.of (((y1.trans y2).trans y3) _ _ wK), fun q4 hq4 => ?_⟩
          rw [cutF (a + 1) (by omega)]
          generalize hG : upd _ _ _ = G4
          obtain ⟨y4, v4⟩ := obj_of hq4 hG
          clear hG
          refine ⟨_, _, _, _, rfl, rfl, y4 _ _ v3, v4, by rw [List.length_append, lT, lF]; exact sl' _ (by show a + 1 + (n - (a + 1)) ≤ 2000; omega), fun q5 hq5 => ?_⟩
          generalize hG : upd _ _ _ = G5
          obtain ⟨y5, v5⟩ := obj_of hq5 hG
          clear hG
          have xx := ((((y1.trans y2).trans y3).trans y4).trans y5)
          have kk := k018.trans (xx.kept k018.bx)
          have dz : DzAll G5 ((Z.take a).map V.str ++ [v] ++ (Z.drop (a + 1)).map V.str) ((Z.take a).map PyData.str ++ [dv] ++ (Z.drop (a + 1)).map PyData.str) := DzAll.app (dz_strs _) (DzAll.app (.cons (dzv _ xx) .nil) (dz_strs _))
          have it : ∀ d ∈ (Z.take a).map PyData.str ++ [dv] ++ (Z.drop (a + 1)).map PyData.str, ItemD d := fun d hd => by
            rcases List.mem_append.mp hd with hd | hd
            · rcases List.mem_append.mp hd with hd | hd
              · obtain ⟨z, hz, rfl⟩ := List.mem_map.mp hd
                exact okZ z (mTF a z (.inl hz))
              · rw [List.mem_singleton.mp hd]
                exact iv
            · obtain ⟨z, hz, rfl⟩ := List.mem_map.mp hd
              exact okZ z (mTF (a + 1) z (.inr hz))
          have lnn : ((Z.take a).map PyData.str ++ [dv] ++ (Z.drop (a + 1)).map PyData.str).length = n := by
            rw [List.length_append, List.length_append, List.length_map, List.length_map, List.length_take, List.length_drop, lZ]
            show _ + 1 + _ = n
            omega
          have nb3 : nbL ((Z.take a).map PyData.str ++ [dv] ++ (Z.drop (a + 1)).map PyData.str) = true := by
            by_cases n3 : n = 3
            · by_cases a0 : a = 0
              · subst a0
                have z1 : Z[1]? = some Z[1] := List.getElem?_eq_getElem (by omega)
                refine nb_str (z := Z[1]) (List.mem_append_right _ (List.mem_map.mpr ⟨Z[1], ?_, rfl⟩))
                exact List.mem_iff_getElem?.mpr ⟨0, by rw [List.getElem?_drop]; exact z1⟩
              · have z0 : Z[0]? = some Z[0] := List.getElem?_eq_getElem (by omega)
                refine nb_str (z := Z[0]) (List.mem_append_left _ (List.mem_append_left _ (List.mem_map.mpr ⟨Z[0], ?_, rfl⟩)))
                exact List.mem_iff_getElem?.mpr ⟨0, by rw [List.getElem?_take, if_pos (by omega)]; exact z0⟩
            · exact nb_len (by rw [lnn]; exact n3)
          obtain ⟨td, sh, nb⟩ := spoilt_fin v5 dz it (by rw [lnn]; omega) nb3
          exact k q5 _ _ G5 kk v5 (k018.free ((((y1.trans y2).trans y3).trans y4).free hq5)) dz td (rowD_bad (d := dv) (by simp) nv2) sh nb
end
end LL
namespace LL
open PySem PySem.Spec PyProof.Rows L2
/-! ### list(text) -/
theorem call_listS {X : Cx} (hc : X.calm = true) : CallR X (.type "list") (fun xs H Q => ∃ z : Str, xs = [.str z] ∧ z.cps.size ≤ sizeLine ∧ ∀ l, H l = none → Q (.ref l) (upd H l (.lst (z.cps.toList.map fun c => V.str ⟨#[c]⟩)))) := by
  intro pins s σ H xs us Q I r h
  obtain ⟨z, rfl, few, q⟩ := h
  cases r with
  | cons rx rr =>
    cases rr
    obtain ⟨t, rfl⟩ := rx
    refine PySem.call_list_str (I.ok.hd hc) z t (fun h' tk acc c' keep eS got => ?_) few
    have vals : Vals (z.cps.toList.map fun c => V.str ⟨#[c]⟩) acc.toList := by
      have e : acc.toList.length = z.cps.toList.length := by rw [Array.length_toList, Array.length_toList]; exact got.1
      have hg : z.cps.toList.map (fun c => V.str ⟨#[c]⟩) = (List.range acc.toList.length).map fun k => (z.cps.toList.map fun c => V.str ⟨#[c]⟩).getD k .non := by
        apply List.ext_getElem?
        intro j
        rw [List.getElem?_map, List.getElem?_map]
        by_cases hj : j < z.cps.toList.length
        · rw [List.getElem?_range (by omega), List.getElem?_eq_getElem hj]
          show _ = some ((z.cps.toList.map fun c => V.str ⟨#[c]⟩).getD j .non)
          rw [List.getD_eq_getElem?_getD, List.getElem?_map, List.getElem?_eq_getElem hj]
          rfl
        · rw [List.getElem?_eq_none (by omega), List.getElem?_eq_none (by rw [List.length_range]; omega)]
          rfl
      rw [hg]
      refine vals_of_get acc.toList _ fun j u hj => ?_
      obtain ⟨c, t2, hc2, rfl⟩ := got.2 j u (by rw [← hj, Array.getElem?_toList])
      have hc3 : z.cps.toList[j]? = some c := by rw [Array.getElem?_toList]; exact hc2
      rw [List.getD_eq_getElem?_getD, List.getElem?_map, hc3]
      exact ⟨t2, rfl⟩
    refine ⟨.ref _, _, I.laid (t' := tk) (o := .lst (z.cps.toList.map fun c => V.str ⟨#[c]⟩)) keep (Nat.le_refl _) ⟨?_, acc.toList, c', vals, ?_⟩, rfl, q _ (I.hok.fresh (Nat.le_refl _))⟩
    · rw [List.length_map, Array.length_toList]
      exact few
    · rw [Array.toArray_toList]
      exact eS
end LL
namespace LL
open PySem PySem.Spec PyProof.Rows L2
/-- keys as they are drawn: good ones, of four kinds, or none -/
structure DrawnK (K : PySem.W.Frag) (H : Hp) (x : V) (g : Bool) (d : PyData) : Prop where
  t : TellD H x d
  k : keysD d = g
  sh : shortK d = true
  nb : nbD d = true
  gd : g = true → ∃ ks, ks ∈ [[("a" : Str)], ["b", "ab", "a"], ["zz"], ["c", "d", "e", "f", "g", "h", "i", "j", "k", "l", "m", "n"]] ∧ (d = .list (ks.map .str) ∨ d = .tuple (ks.map .str))
theorem TellD.exd {H H' : Hp} {x : V} {d : PyData} (h : TellD H x d) (e : Exd H H') : TellD H' x d := h.kept (b := 0) fun b o _ z => e b o z
theorem DzAll.exd {H H' : Hp} {xs : List V} {ds : List PyData} (h : DzAll H xs ds) (e : Exd H H') : DzAll H' xs ds := h.keep fun b o _ z => e b o z
theorem DrawnK.exd {K : PySem.W.Frag} {H H' : Hp} {x : V} {g : Bool} {d : PyData} (h : DrawnK K H x g d) (e : Exd H H') : DrawnK K H' x g d := ⟨h.t.exd e, h.k, h.sh, h.nb, h.gd⟩
theorem DrawnK.kb {K : PySem.W.Frag} {b : Addr} {H H' : Hp} {x : V} {g : Bool} {d : PyData} (h : DrawnK K H x g d) (k : Kept b H H') (bx : Bx H b) : DrawnK K H' x g d := ⟨⟨h.t.dz.kb k bx _ _ h.nb, h.t.sz, h.t.io⟩, h.k, h.sh, h.nb, h.gd⟩
theorem sz_tuple {ds : List PyData} {k W : Nat} (h : Sz (.list ds) k W) : Sz (.tuple ds) k W := by
  obtain ⟨a, b, c, d⟩ := h
  simp only [PyData.showable, PyData.leavesShort, PyData.depth, PyData.weight] at a b c d
  exact ⟨by simp only [PyData.showable]; exact a, by simp only [PyData.leavesShort]; exact b, by simp only [PyData.depth]; exact c, by simp only [PyData.weight]; exact d⟩
theorem chars_dz {H : Hp} {a : Addr} {cs : List Nat} (h : H a = some (.lst (cs.map fun c => V.str ⟨#[c]⟩))) : Dz H (.ref a) (.list (cs.map fun c => .str ⟨#[c]⟩)) := by
  refine .lst h ?_
  clear h
  induction cs with
  | nil => exact .nil
  | cons c cs ih => exact .cons (.str _) ih
def spKeysL (K : PySem.W.Frag) : Sp := fun vs H Q _ => ∃ (b : Addr), vs = [.ref b] ∧ Bx H b ∧ ∀ q x g d H', Kept b H H' → H' q = some (.tup [x, .bl g]) → DrawnK K H' x g d → (∀ al, x = .ref al → H al = none) → Q (.ref q) H'
section
variable {P : Program} {w : World} {K : PySem.W.Frag} {mg : Str → Option Value} {base : Heap} {t1 t2 : Addr}
theorem ok__law_keys (D : Defs K mg) (T : Tx K mg) : FnOk P w K mg base CX0 3 D._law_keys.f D._law_keys.fd ["_law_box_here"] (spKeysL K) := by
  have G_law_take := ok__law_take (P := P) (w := w) (base := base) D T
  have G_law_spoilt_keys := ok__law_spoilt_keys (P := P) (w := w) (base := base) D T
  refine D._law_keys.F.ok scLkeys (fun vs H Q E h => ?_) (fun cdv A outer s H vs Q E hr h => ?_)
  · obtain ⟨b, rfl, _⟩ := h
    rfl
  · obtain ⟨b, rfl, bx, k⟩ := h
    refine ⟨_, (pss_cons (ps_set (i := 1) scLkeys.nd rfl (Or.inl rfl) (pe_lst (pa_cons (pe_lst (pa_cons pe_str pa_nil)) (pa_cons (pe_lst (pa_cons pe_str (pa_cons pe_str (pa_cons pe_str pa_nil)))) (pa_cons (pe_tup (pa_cons pe_str pa_nil)) (pa_cons (pe_lst (pa_cons pe_str (pa_cons pe_str (pa_cons pe_str (pa_cons pe_str (pa_cons pe_str (pa_cons pe_str (pa_cons pe_str (pa_cons pe_str (pa_cons pe_str (pa_cons pe_str (pa_cons pe_str (pa_cons pe_str pa_nil))))))))))))) pa_nil))))))
        (pss_cons (ps_set (i := 2) scLkeys.nd rfl (Or.inl rfl) (pe_lst (pa_cons (pe_lst pa_nil) (pa_cons (pe_tup pa_nil) (pa_cons pe_non (pa_cons pe_str (pa_cons (pe_lst (pa_cons pe_str (pa_cons pe_str pa_nil))) (pa_cons (pe_lst (pa_cons pe_str (pa_cons pe_str pa_nil))) (pa_cons (pe_lst (pa_cons pe_str (pa_cons pe_str pa_nil))) (pa_cons (pe_lst (pa_cons pe_str pa_nil)) (pa_cons (pe_lst (pa_cons pe_str (pa_cons pe_str pa_nil))) (pa_cons (pe_lst (pa_cons pe_str pa_nil)) pa_nil))))))))))))
        (pss_cons (ps_set (i := 2) scLkeys.nd rfl (Or.inl rfl) (pe_op op_cat (pv 2) (pe_lst (pa_cons (pe_lst (pa_cons pe_str pa_nil)) (pa_cons (pe_lst (pa_cons pe_str pa_nil)) (pa_cons (pe_lst (pa_cons pe_str pa_nil)) (pa_cons (pe_lst (pa_cons pe_int pa_nil)) (pa_cons (pe_lst (pa_cons pe_str (pa_cons pe_non pa_nil))) pa_nil))))))))
        (pss_cons (ps_set (i := 2) scLkeys.nd rfl (Or.inl rfl) (pe_op op_cat (pv 2) (pe_lst (pa_cons (pe_callTy (call_listS rfl) (by rfl) T.b_list (by decide +kernel) (pa_cons pe_str pa_nil)) (pa_cons pe_dnewK (pa_cons (pe_disp (pps_cons pe_str pe_int pps_nil) (by rfl) (by rfl) (fun z => by cases z) (by decide)) (pa_cons (pe_lst (pa_cons (pe_lst (pa_cons pe_str pa_nil)) pa_nil)) (pa_cons (pe_lst (pa_cons pe_str pa_nil)) (pa_cons (pe_lst (pa_cons pe_str pa_nil)) (pa_cons pe_int (pa_cons pe_bl pa_nil)))))))))))
        (pss_cons (ps_if (pt_cmpR op_eq (pcall D._law_take G_law_take hr (by decide) (by rfl) (pa_cons (pv 0) (pa_cons pe_int pa_nil))) pe_int (nomark _)) (pss_one (ps_ret (pe_tup (pa_cons (pe_ix ix_list (pv 1) (pcall D._law_take G_law_take hr (by decide) (by rfl) (pa_cons (pv 0) (pa_cons pe_int pa_nil))) (fun _ _ => rfl)) (pa_cons pe_bl pa_nil))))) pss_nil)
        (pss_cons (ps_if (pt_cmpR op_eq (pcall D._law_take G_law_take hr (by decide) (by rfl) (pa_cons (pv 0) (pa_cons pe_int pa_nil))) pe_int (nomark _)) (pss_cons (ps_set (i := 3) scLkeys.nd rfl (Or.inl rfl) (pcall D._law_spoilt_keys G_law_spoilt_keys hr (by decide) (by rfl) (pa_cons (pv 0) pa_nil)))
        (pss_one (ps_ret (pe_tup (pa_cons (pe_ix ix_list (pe_lst (pa_cons (pv 3) (pa_cons (pe_callTy call_tuple_of (by rfl) T.b_tuple (by decide +kernel) (pa_cons (pv 3) pa_nil)) pa_nil))) (pcall D._law_take G_law_take hr (by decide) (by rfl) (pa_cons (pv 0) (pa_cons pe_int pa_nil))) (fun _ _ => rfl)) (pa_cons pe_bl pa_nil)))))) pss_nil)
        (pss_one (ps_ret (pe_tup (pa_cons (pe_ix ix_list (pv 2) (pcall D._law_take G_law_take hr (by decide) (by rfl) (pa_cons (pv 0) (pa_cons (pe_callB call_len_seq (by rfl) T.b_len (by decide +kernel) (pa_cons (pv 2) pa_nil)) pa_nil))) (fun _ _ => rfl)) (pa_cons pe_bl pa_nil))))))))))), ?_⟩
    have hst : L2.start scLkeys_N [V.ref b] = [some (.ref b), none, none, none] := rfl
    rw [hst]
    -- the good ones
    refine ⟨by show 1 ≤ sizeLine; decide, fun a1 ha1 => ?_⟩
    generalize hG : upd _ _ _ = G1
    obtain ⟨x1, w1⟩ := obj_of ha1 hG
    clear hG
    have e1 : Exd H G1 := x1
    have za1 : H a1 = none := ha1
    refine ⟨by show 3 ≤ sizeLine; decide, fun a2 ha2 => ?_⟩
    generalize hG : upd _ _ _ = G2
    obtain ⟨x2, w2⟩ := obj_of ha2 hG
    clear hG
    have e2 : Exd H G2 := e1.trans x2
    have za2 : H a2 = none := e1.free ha2
    refine ⟨by show 1 ≤ sizeLine; decide, fun a3 ha3 => ?_⟩
    generalize hG : upd _ _ _ = G3
    obtain ⟨x3, w3⟩ := obj_of ha3 hG
    clear hG
    have e3 : Exd H G3 := e2.trans x3
    have za3 : H a3 = none := e2.free ha3
    refine ⟨by show 12 ≤ sizeLine; decide, fun a4 ha4 => ?_⟩
    generalize hG : upd _ _ _ = G4
    obtain ⟨x4, w4⟩ := obj_of ha4 hG
    clear hG
    have e4 : Exd H G4 := e3.trans x4
    have za4 : H a4 = none := e3.free ha4
    refine ⟨by show 4 ≤ sizeLine; decide, fun a5 ha5 => ?_⟩
    generalize hG : upd _ _ _ = G5
    obtain ⟨x5, w5⟩ := obj_of ha5 hG
    clear hG
    have e5 : Exd H G5 := e4.trans x5
    have za5 : H a5 = none := e4.free ha5
    refine gset (by (simp only [List.set_cons_succ, List.set_cons_zero]); rfl) ?_
    refine ⟨by show 0 ≤ sizeLine; decide, fun b1 hb1 => ?_⟩
    generalize hG : upd _ _ _ = G6
    obtain ⟨x6, w6⟩ := obj_of hb1 hG
    clear hG
    have e6 : Exd H G6 := e5.trans x6
    have zb1 : H b1 = none := e5.free hb1
    refine ⟨by show 0 ≤ sizeLine; decide, fun b2 hb2 => ?_⟩
    generalize hG : upd _ _ _ = G7
    obtain ⟨x7, w7⟩ := obj_of hb2 hG
    clear hG
    have e7 : Exd H G7 := e6.trans x7
    have zb2 : H b2 = none := e6.free hb2
    refine ⟨by show 2 ≤ sizeLine; decide, fun b3 hb3 => ?_⟩
    generalize hG : upd _ _ _ = G8
    obtain ⟨x8, w8⟩ := obj_of hb3 hG
    clear hG
    have e8 : Exd H G8 := e7.trans x8
    have zb3 : H b3 = none := e7.free hb3
    refine ⟨by show 2 ≤ sizeLine; decide, fun b4 hb4 => ?_⟩
    generalize hG : upd _ _ _ = G9
    obtain ⟨x9, w9⟩ := obj_of hb4 hG
    clear hG
    have e9 : Exd H G9 := e8.trans x9
    have zb4 : H b4 = none := e8.free hb4
    refine ⟨by show 2 ≤ sizeLine; decide, fun b5 hb5 => ?_⟩
    generalize hG : upd _ _ _ = G10
    obtain ⟨x10, w10⟩ := obj_of hb5 hG
    clear hG
    have e10 : Exd H G10 := e9.trans x10
    have zb5 : H b5 = none := e9.free hb5
    refine ⟨by show 1 ≤ sizeLine; decide, fun b6 hb6 => ?_⟩
    generalize hG : upd _ _ _ = G11
    obtain ⟨x11, w11⟩ := obj_of hb6 hG
    clear hG
    have e11 : Exd H G11 := e10.trans x11
    have zb6 : H b6 = none := e10.free hb6
    refine ⟨by show 2 ≤ sizeLine; decide, fun b7 hb7 => ?_⟩
    generalize hG : upd _ _ _ = G12
    obtain ⟨x12, w12⟩ := obj_of hb7 hG
    clear hG
    have e12 : Exd H G12 := e11.trans x12
    have zb7 : H b7 = none := e11.free hb7
    refine ⟨by show 1 ≤ sizeLine; decide, fun b8 hb8 => ?_⟩
    generalize hG : upd _ _ _ = G13
    obtain ⟨x13, w13⟩ := obj_of hb8 hG
    clear hG
    have e13 : Exd H G13 := e12.trans x13
    have zb8 : H b8 = none := e12.free hb8
    refine ⟨by show 10 ≤ sizeLine; decide, fun L1 hL1 => ?_⟩
    generalize hG : upd _ _ _ = G14
    obtain ⟨x14, w14⟩ := obj_of hL1 hG
    clear hG
    have e14 : Exd H G14 := e13.trans x14
    have zL1 : H L1 = none := e13.free hL1
    refine gset (by (simp only [List.set_cons_succ, List.set_cons_zero]); rfl) ?_
    refine ⟨_, rfl, by show 1 ≤ sizeLine; decide, fun c1 hc1 => ?_⟩
    generalize hG : upd _ _ _ = G15
    obtain ⟨x15, w15⟩ := obj_of hc1 hG
    clear hG
    have e15 : Exd H G15 := e14.trans x15
    have zc1 : H c1 = none := e14.free hc1
    refine ⟨by show 1 ≤ sizeLine; decide, fun c2 hc2 => ?_⟩
    generalize hG : upd _ _ _ = G16
    obtain ⟨x16, w16⟩ := obj_of hc2 hG
    clear hG
    have e16 : Exd H G16 := e15.trans x16
    have zc2 : H c2 = none := e15.free hc2
    refine ⟨by show 1 ≤ sizeLine; decide, fun c3 hc3 => ?_⟩
    generalize hG : upd _ _ _ = G17
    obtain ⟨x17, w17⟩ := obj_of hc3 hG
    clear hG
    have e17 : Exd H G17 := e16.trans x17
    have zc3 : H c3 = none := e16.free hc3
    refine ⟨by show 1 ≤ sizeLine; decide, fun c4 hc4 => ?_⟩
    generalize hG : upd _ _ _ = G18
    obtain ⟨x18, w18⟩ := obj_of hc4 hG
    clear hG
    have e18 : Exd H G18 := e17.trans x18
    have zc4 : H c4 = none := e17.free hc4
    refine ⟨by show 2 ≤ sizeLine; decide, fun c5 hc5 => ?_⟩
    generalize hG : upd _ _ _ = G19
    obtain ⟨x19, w19⟩ := obj_of hc5 hG
    clear hG
    have e19 : Exd H G19 := e18.trans x19
    have zc5 : H c5 = none := e18.free hc5
    refine ⟨by show 5 ≤ sizeLine; decide, fun L2 hL2 => ?_⟩
    generalize hG : upd _ _ _ = G20
    obtain ⟨x20, w20⟩ := obj_of hL2 hG
    clear hG
    have e20 : Exd H G20 := e19.trans x20
    have zL2 : H L2 = none := e19.free hL2
    refine ⟨_, _, _, _, rfl, rfl, (((((x15.trans x16).trans x17).trans x18).trans x19).trans x20) _ _ w14, w20, by show 15 ≤ sizeLine; decide, fun L3 hL3 => ?_⟩
    generalize hG : upd _ _ _ = G21
    obtain ⟨x21, w21⟩ := obj_of hL3 hG
    clear hG
    have e21 : Exd H G21 := e20.trans x21
    have zL3 : H L3 = none := e20.free hL3
    refine gset (by (simp only [List.set_cons_succ, List.set_cons_zero]); rfl) ?_
    refine ⟨_, rfl, _, rfl, by show 13 ≤ sizeLine; decide, fun d1 hd1 => ?_⟩
    generalize hG : upd _ _ _ = G22
    obtain ⟨x22, w22⟩ := obj_of hd1 hG
    clear hG
    have e22 : Exd H G22 := e21.trans x22
    have zd1 : H d1 = none := e21.free hd1
    refine fun d2 hd2 => ?_
    generalize hG : upd _ _ _ = G23
    obtain ⟨x23, w23⟩ := obj_of hd2 hG
    clear hG
    have e23 : Exd H G23 := e22.trans x23
    have zd2 : H d2 = none := e22.free hd2
    refine fun d3 hd3 => ⟨upd_same, [((.inr "a" : Key), V.int 1)], rfl, by decide, ?_⟩
    rw [upd_upd, show mergeK [] [((.inr "a" : Key), V.int 1)] = [((.inr "a" : Key), V.int 1)] from rfl]
    generalize hG : upd _ _ _ = G24
    obtain ⟨x24, w24⟩ := obj_of hd3 hG
    clear hG
    have e24 : Exd H G24 := e23.trans x24
    have zd3 : H d3 = none := e23.free hd3
    refine ⟨by show 1 ≤ sizeLine; decide, fun d4 hd4 => ?_⟩
    generalize hG : upd _ _ _ = G25
    obtain ⟨x25, w25⟩ := obj_of hd4 hG
    clear hG
    have e25 : Exd H G25 := e24.trans x25
    have zd4 : H d4 = none := e24.free hd4
    refine ⟨by show 1 ≤ sizeLine; decide, fun d5 hd5 => ?_⟩
    generalize hG : upd _ _ _ = G26
    obtain ⟨x26, w26⟩ := obj_of hd5 hG
    clear hG
    have e26 : Exd H G26 := e25.trans x26
    have zd5 : H d5 = none := e25.free hd5
    refine ⟨by show 1 ≤ sizeLine; decide, fun d6 hd6 => ?_⟩
    generalize hG : upd _ _ _ = G27
    obtain ⟨x27, w27⟩ := obj_of hd6 hG
    clear hG
    have e27 : Exd H G27 := e26.trans x27
    have zd6 : H d6 = none := e26.free hd6
    refine ⟨by show 1 ≤ sizeLine; decide, fun d7 hd7 => ?_⟩
    generalize hG : upd _ _ _ = G28
    obtain ⟨x28, w28⟩ := obj_of hd7 hG
    clear hG
    have e28 : Exd H G28 := e27.trans x28
    have zd7 : H d7 = none := e27.free hd7
    refine ⟨by show 8 ≤ sizeLine; decide, fun L4 hL4 => ?_⟩
    generalize hG : upd _ _ _ = G29
    obtain ⟨x29, w29⟩ := obj_of hL4 hG
    clear hG
    have e29 : Exd H G29 := e28.trans x29
    have zL4 : H L4 = none := e28.free hL4
    refine ⟨_, _, _, _, rfl, rfl, (((((((x22.trans x23).trans x24).trans x25).trans x26).trans x27).trans x28).trans x29) _ _ w21, w29, by show 23 ≤ sizeLine; decide, fun L5 hL5 => ?_⟩
    generalize hG : upd _ _ _ = G30
    obtain ⟨x30, w30⟩ := obj_of hL5 hG
    clear hG
    have e30 : Exd H G30 := e29.trans x30
    have zL5 : H L5 = none := e29.free hL5
    refine gset (by (simp only [List.set_cons_succ, List.set_cons_zero]); rfl) ?_
    have xA : Exd H G30 := e30
    have fa1 := ((((((((((((((((((((((((((((x2.trans x3).trans x4).trans x5).trans x6).trans x7).trans x8).trans x9).trans x10).trans x11).trans x12).trans x13).trans x14).trans x15).trans x16).trans x17).trans x18).trans x19).trans x20).trans x21).trans x22).trans x23).trans x24).trans x25).trans x26).trans x27).trans x28).trans x29).trans x30) _ _ w1
    have fa2 := (((((((((((((((((((((((((((x3.trans x4).trans x5).trans x6).trans x7).trans x8).trans x9).trans x10).trans x11).trans x12).trans x13).trans x14).trans x15).trans x16).trans x17).trans x18).trans x19).trans x20).trans x21).trans x22).trans x23).trans x24).trans x25).trans x26).trans x27).trans x28).trans x29).trans x30) _ _ w2
    have fa3 := ((((((((((((((((((((((((((x4.trans x5).trans x6).trans x7).trans x8).trans x9).trans x10).trans x11).trans x12).trans x13).trans x14).trans x15).trans x16).trans x17).trans x18).trans x19).trans x20).trans x21).trans x22).trans x23).trans x24).trans x25).trans x26).trans x27).trans x28).trans x29).trans x30) _ _ w3
    have fa4 := (((((((((((((((((((((((((x5.trans x6).trans x7).trans x8).trans x9).trans x10).trans x11).trans x12).trans x13).trans x14).trans x15).trans x16).trans x17).trans x18).trans x19).trans x20).trans x21).trans x22).trans x23).trans x24).trans x25).trans x26).trans x27).trans x28).trans x29).trans x30) _ _ w4
    have fa5 := ((((((((((((((((((((((((x6.trans x7).trans x8).trans x9).trans x10).trans x11).trans x12).trans x13).trans x14).trans x15).trans x16).trans x17).trans x18).trans x19).trans x20).trans x21).trans x22).trans x23).trans x24).trans x25).trans x26).trans x27).trans x28).trans x29).trans x30) _ _ w5
    have fb1 := (((((((((((((((((((((((x7.trans x8).trans x9).trans x10).trans x11).trans x12).trans x13).trans x14).trans x15).trans x16).trans x17).trans x18).trans x19).trans x20).trans x21).trans x22).trans x23).trans x24).trans x25).trans x26).trans x27).trans x28).trans x29).trans x30) _ _ w6
    have fb2 := ((((((((((((((((((((((x8.trans x9).trans x10).trans x11).trans x12).trans x13).trans x14).trans x15).trans x16).trans x17).trans x18).trans x19).trans x20).trans x21).trans x22).trans x23).trans x24).trans x25).trans x26).trans x27).trans x28).trans x29).trans x30) _ _ w7
    have fb3 := (((((((((((((((((((((x9.trans x10).trans x11).trans x12).trans x13).trans x14).trans x15).trans x16).trans x17).trans x18).trans x19).trans x20).trans x21).trans x22).trans x23).trans x24).trans x25).trans x26).trans x27).trans x28).trans x29).trans x30) _ _ w8
    have fb4 := ((((((((((((((((((((x10.trans x11).trans x12).trans x13).trans x14).trans x15).trans x16).trans x17).trans x18).trans x19).trans x20).trans x21).trans x22).trans x23).trans x24).trans x25).trans x26).trans x27).trans x28).trans x29).trans x30) _ _ w9
    have fb5 := (((((((((((((((((((x11.trans x12).trans x13).trans x14).trans x15).trans x16).trans x17).trans x18).trans x19).trans x20).trans x21).trans x22).trans x23).trans x24).trans x25).trans x26).trans x27).trans x28).trans x29).trans x30) _ _ w10
    have fb6 := ((((((((((((((((((x12.trans x13).trans x14).trans x15).trans x16).trans x17).trans x18).trans x19).trans x20).trans x21).trans x22).trans x23).trans x24).trans x25).trans x26).trans x27).trans x28).trans x29).trans x30) _ _ w11
    have fb7 := (((((((((((((((((x13.trans x14).trans x15).trans x16).trans x17).trans x18).trans x19).trans x20).trans x21).trans x22).trans x23).trans x24).trans x25).trans x26).trans x27).trans x28).trans x29).trans x30) _ _ w12
    have fb8 := ((((((((((((((((x14.trans x15).trans x16).trans x17).trans x18).trans x19).trans x20).trans x21).trans x22).trans x23).trans x24).trans x25).trans x26).trans x27).trans x28).trans x29).trans x30) _ _ w13
    have fc1 := ((((((((((((((x16.trans x17).trans x18).trans x19).trans x20).trans x21).trans x22).trans x23).trans x24).trans x25).trans x26).trans x27).trans x28).trans x29).trans x30) _ _ w15
    have fc2 := (((((((((((((x17.trans x18).trans x19).trans x20).trans x21).trans x22).trans x23).trans x24).trans x25).trans x26).trans x27).trans x28).trans x29).trans x30) _ _ w16
    have fc3 := ((((((((((((x18.trans x19).trans x20).trans x21).trans x22).trans x23).trans x24).trans x25).trans x26).trans x27).trans x28).trans x29).trans x30) _ _ w17
    have fc4 := (((((((((((x19.trans x20).trans x21).trans x22).trans x23).trans x24).trans x25).trans x26).trans x27).trans x28).trans x29).trans x30) _ _ w18
    have fc5 := ((((((((((x20.trans x21).trans x22).trans x23).trans x24).trans x25).trans x26).trans x27).trans x28).trans x29).trans x30) _ _ w19
    have fd1 := (((((((x23.trans x24).trans x25).trans x26).trans x27).trans x28).trans x29).trans x30) _ _ w22
    have fd2 := ((((((x24.trans x25).trans x26).trans x27).trans x28).trans x29).trans x30) _ _ w23
    have fd3 := (((((x25.trans x26).trans x27).trans x28).trans x29).trans x30) _ _ w24
    have fd4 := ((((x26.trans x27).trans x28).trans x29).trans x30) _ _ w25
    have fd5 := (((x27.trans x28).trans x29).trans x30) _ _ w26
    have fd6 := ((x28.trans x29).trans x30) _ _ w27
    have fd7 := (x29.trans x30) _ _ w28
    have fL5 := w30
    clear x1 w1 x2 w2 x3 w3 x4 w4 x5 w5 x6 w6 x7 w7 x8 w8 x9 w9 x10 w10 x11 w11 x12 w12 x13 w13 x14 w14 x15 w15 x16 w16 x17 w17 x18 w18 x19 w19 x20 w20 x21 w21 x22 w22 x23 w23 x24 w24 x25 w25 x26 w26 x27 w27 x28 w28 x29 w29 x30 w30
    have goods : ∀ v ∈ [V.ref a1, .ref a2, .ref a3, .ref a4], ∀ G, Exd G30 G → ∃ d, DrawnK K G v true d := by
      intro v mem G x
      simp only [List.mem_cons, List.not_mem_nil, or_false] at mem
      rcases mem with rfl | rfl | rfl | rfl
      · exact ⟨.list [.str "a"], tell_lit (.lst (x _ _ fa1) (.cons (.str _) .nil)) (by decide +kernel) (by decide +kernel) (by decide +kernel) (by decide +kernel) (by decide +kernel), (by decide +kernel), (by decide +kernel), (by decide +kernel), fun _ => ⟨["a"], by simp, .inl rfl⟩⟩
      · exact ⟨.list [.str "b", .str "ab", .str "a"], tell_lit (.lst (x _ _ fa2) (.cons (.str _) (.cons (.str _) (.cons (.str _) .nil)))) (by decide +kernel) (by decide +kernel) (by decide +kernel) (by decide +kernel) (by decide +kernel), (by decide +kernel), (by decide +kernel), (by decide +kernel), fun _ => ⟨["b", "ab", "a"], by simp, .inl rfl⟩⟩
      · exact ⟨.tuple [.str "zz"], tell_lit (.tup (x _ _ fa3) (.cons (.str _) .nil)) (by decide +kernel) (by decide +kernel) (by decide +kernel) (by decide +kernel) (by decide +kernel), (by decide +kernel), (by decide +kernel), (by decide +kernel), fun _ => ⟨["zz"], by simp, .inr rfl⟩⟩
      · exact ⟨.list [.str "c", .str "d", .str "e", .str "f", .str "g", .str "h", .str "i", .str "j", .str "k", .str "l", .str "m", .str "n"], tell_lit (.lst (x _ _ fa4) (.cons (.str _) (.cons (.str _) (.cons (.str _) (.cons (.str _) (.cons (.str _) (.cons (.str _) (.cons (.str _) (.cons (.str _) (.cons (.str _) (.cons (.str _) (.cons (.str _) (.cons (.str _) .nil))))))))))))) (by decide +kernel) (by decide +kernel) (by decide +kernel) (by decide +kernel) (by decide +kernel), (by decide +kernel), (by decide +kernel), (by decide +kernel), fun _ => ⟨["c", "d", "e", "f", "g", "h", "i", "j", "k", "l", "m", "n"], by simp, .inl rfl⟩⟩
    have bads : ∀ v ∈ [V.ref b1, .ref b2, .non, .str "abc", .ref b3, .ref b4, .ref b5, .ref b6, .ref b7, .ref b8] ++ [V.ref c1, .ref c2, .ref c3, .ref c4, .ref c5] ++ [V.ref d1, .ref d2, .ref d3, .ref d5, .ref d6, .ref d7, .int 7, .bl true], ∀ G, Exd G30 G → ∃ d, DrawnK K G v false d := by
      intro v mem G x
      simp only [List.mem_append, List.mem_cons, List.not_mem_nil, or_false] at mem
      rcases mem with ((rfl | rfl | rfl | rfl | rfl | rfl | rfl | rfl | rfl | rfl) | (rfl | rfl | rfl | rfl | rfl)) | (rfl | rfl | rfl | rfl | rfl | rfl | rfl | rfl)
      · exact ⟨.list [], tell_lit (.lst (x _ _ fb1) .nil) (by decide +kernel) (by decide +kernel) (by decide +kernel) (by decide +kernel) (by decide +kernel), (by decide +kernel), (by decide +kernel), (by decide +kernel), fun z => by cases z⟩
      · exact ⟨.tuple [], tell_lit (.tup (x _ _ fb2) .nil) (by decide +kernel) (by decide +kernel) (by decide +kernel) (by decide +kernel) (by decide +kernel), (by decide +kernel), (by decide +kernel), (by decide +kernel), fun z => by cases z⟩
      · exact ⟨.none, tell_lit (.non) (by decide +kernel) (by decide +kernel) (by decide +kernel) (by decide +kernel) (by decide +kernel), (by decide +kernel), (by decide +kernel), (by decide +kernel), fun z => by cases z⟩
      · exact ⟨.str "abc", tell_lit (.str _) (by decide +kernel) (by decide +kernel) (by decide +kernel) (by decide +kernel) (by decide +kernel), (by decide +kernel), (by decide +kernel), (by decide +kernel), fun z => by cases z⟩
      · exact ⟨.list [.str "a", .str "a"], tell_lit (.lst (x _ _ fb3) (.cons (.str _) (.cons (.str _) .nil))) (by decide +kernel) (by decide +kernel) (by decide +kernel) (by decide +kernel) (by decide +kernel), (by decide +kernel), (by decide +kernel), (by decide +kernel), fun z => by cases z⟩
      · exact ⟨.list [.str "a", .str "A"], tell_lit (.lst (x _ _ fb4) (.cons (.str _) (.cons (.str _) .nil))) (by decide +kernel) (by decide +kernel) (by decide +kernel) (by decide +kernel) (by decide +kernel), (by decide +kernel), (by decide +kernel), (by decide +kernel), fun z => by cases z⟩
      · exact ⟨.list [.str "a", .str ""], tell_lit (.lst (x _ _ fb5) (.cons (.str _) (.cons (.str _) .nil))) (by decide +kernel) (by decide +kernel) (by decide +kernel) (by decide +kernel) (by decide +kernel), (by decide +kernel), (by decide +kernel), (by decide +kernel), fun z => by cases z⟩
      · exact ⟨.list [.str "key"], tell_lit (.lst (x _ _ fb6) (.cons (.str _) .nil)) (by decide +kernel) (by decide +kernel) (by decide +kernel) (by decide +kernel) (by decide +kernel), (by decide +kernel), (by decide +kernel), (by decide +kernel), fun z => by cases z⟩
      · exact ⟨.list [.str "a", .str "now"], tell_lit (.lst (x _ _ fb7) (.cons (.str _) (.cons (.str _) .nil))) (by decide +kernel) (by decide +kernel) (by decide +kernel) (by decide +kernel) (by decide +kernel), (by decide +kernel), (by decide +kernel), (by decide +kernel), fun z => by cases z⟩
      · exact ⟨.list [.str "abcdefghi"], tell_lit (.lst (x _ _ fb8) (.cons (.str _) .nil)) (by decide +kernel) (by decide +kernel) (by decide +kernel) (by decide +kernel) (by decide +kernel), (by decide +kernel), (by decide +kernel), (by decide +kernel), fun z => by cases z⟩
      · exact ⟨.list [.str "a\n"], tell_lit (.lst (x _ _ fc1) (.cons (.str _) .nil)) (by decide +kernel) (by decide +kernel) (by decide +kernel) (by decide +kernel) (by decide +kernel), (by decide +kernel), (by decide +kernel), (by decide +kernel), fun z => by cases z⟩
      · exact ⟨.list [.str "\na"], tell_lit (.lst (x _ _ fc2) (.cons (.str _) .nil)) (by decide +kernel) (by decide +kernel) (by decide +kernel) (by decide +kernel) (by decide +kernel), (by decide +kernel), (by decide +kernel), (by decide +kernel), fun z => by cases z⟩
      · exact ⟨.list [.str "a "], tell_lit (.lst (x _ _ fc3) (.cons (.str _) .nil)) (by decide +kernel) (by decide +kernel) (by decide +kernel) (by decide +kernel) (by decide +kernel), (by decide +kernel), (by decide +kernel), (by decide +kernel), fun z => by cases z⟩
      · exact ⟨.list [.int 5], tell_lit (.lst (x _ _ fc4) (.cons (.int _) .nil)) (by decide +kernel) (by decide +kernel) (by decide +kernel) (by decide +kernel) (by decide +kernel), (by decide +kernel), (by decide +kernel), (by decide +kernel), fun z => by cases z⟩
      · exact ⟨.list [.str "a", .none], tell_lit (.lst (x _ _ fc5) (.cons (.str _) (.cons .non .nil))) (by decide +kernel) (by decide +kernel) (by decide +kernel) (by decide +kernel) (by decide +kernel), (by decide +kernel), (by decide +kernel), (by decide +kernel), fun z => by cases z⟩
      · exact ⟨.list (("abcdefghijklm" : Str).cps.toList.map fun c => .str ⟨#[c]⟩), tell_lit (chars_dz (x _ _ fd1)) (by decide +kernel) (by decide +kernel) (by decide +kernel) (by decide +kernel) (by decide +kernel), (by decide +kernel), (by decide +kernel), (by decide +kernel), fun z => by cases z⟩
      · exact ⟨.dict [], tell_lit (.dct (x _ _ fd2)) (by decide +kernel) (by decide +kernel) (by decide +kernel) (by decide +kernel) (by decide +kernel), (by decide +kernel), (by decide +kernel), (by decide +kernel), fun z => by cases z⟩
      · exact ⟨.dict [(.str "a", .int 1)], tell_lit (.dct1 (x _ _ fd3)) (by decide +kernel) (by decide +kernel) (by decide +kernel) (by decide +kernel) (by decide +kernel), (by decide +kernel), (by decide +kernel), (by decide +kernel), fun z => by cases z⟩
      · exact ⟨.list [.list [.str "a"]], tell_lit (.lst (x _ _ fd5) (.cons (.lst (x _ _ fd4) (.cons (.str _) .nil)) .nil)) (by decide +kernel) (by decide +kernel) (by decide +kernel) (by decide +kernel) (by decide +kernel), (by decide +kernel), (by decide +kernel), (by decide +kernel), fun z => by cases z⟩
      · exact ⟨.list [.str "a b"], tell_lit (.lst (x _ _ fd6) (.cons (.str _) .nil)) (by decide +kernel) (by decide +kernel) (by decide +kernel) (by decide +kernel) (by decide +kernel), (by decide +kernel), (by decide +kernel), (by decide +kernel), fun z => by cases z⟩
      · exact ⟨.list [.str "a1"], tell_lit (.lst (x _ _ fd7) (.cons (.str _) .nil)) (by decide +kernel) (by decide +kernel) (by decide +kernel) (by decide +kernel) (by decide +kernel), (by decide +kernel), (by decide +kernel), (by decide +kernel), fun z => by cases z⟩
      · exact ⟨.int 7, tell_lit (.int _) (by decide +kernel) (by decide +kernel) (by decide +kernel) (by decide +kernel) (by decide +kernel), (by decide +kernel), (by decide +kernel), (by decide +kernel), fun z => by cases z⟩
      · exact ⟨.bool true, tell_lit (.bl _) (by decide +kernel) (by decide +kernel) (by decide +kernel) (by decide +kernel) (by decide +kernel), (by decide +kernel), (by decide +kernel), (by decide +kernel), fun z => by cases z⟩
    have frG : ∀ v ∈ [V.ref a1, .ref a2, .ref a3, .ref a4], ∀ al, v = .ref al → H al = none := by
      intro v mem
      simp only [List.mem_cons, List.not_mem_nil, or_false] at mem
      rcases mem with rfl | rfl | rfl | rfl
      · exact fun al e => by cases e; exact za1
      · exact fun al e => by cases e; exact za2
      · exact fun al e => by cases e; exact za3
      · exact fun al e => by cases e; exact za4
    have frB : ∀ v ∈ [V.ref b1, .ref b2, .non, .str "abc", .ref b3, .ref b4, .ref b5, .ref b6, .ref b7, .ref b8] ++ [V.ref c1, .ref c2, .ref c3, .ref c4, .ref c5] ++ [V.ref d1, .ref d2, .ref d3, .ref d5, .ref d6, .ref d7, .int 7, .bl true], ∀ al, v = .ref al → H al = none := by
      intro v mem
      simp only [List.mem_append, List.mem_cons, List.not_mem_nil, or_false] at mem
      rcases mem with ((rfl | rfl | rfl | rfl | rfl | rfl | rfl | rfl | rfl | rfl) | (rfl | rfl | rfl | rfl | rfl)) | (rfl | rfl | rfl | rfl | rfl | rfl | rfl | rfl)
      · exact fun al e => by cases e; exact zb1
      · exact fun al e => by cases e; exact zb2
      · exact fun al e => by cases e
      · exact fun al e => by cases e
      · exact fun al e => by cases e; exact zb3
      · exact fun al e => by cases e; exact zb4
      · exact fun al e => by cases e; exact zb5
      · exact fun al e => by cases e; exact zb6
      · exact fun al e => by cases e; exact zb7
      · exact fun al e => by cases e; exact zb8
      · exact fun al e => by cases e; exact zc1
      · exact fun al e => by cases e; exact zc2
      · exact fun al e => by cases e; exact zc3
      · exact fun al e => by cases e; exact zc4
      · exact fun al e => by cases e; exact zc5
      · exact fun al e => by cases e; exact zd1
      · exact fun al e => by cases e; exact zd2
      · exact fun al e => by cases e; exact zd3
      · exact fun al e => by cases e; exact zd5
      · exact fun al e => by cases e; exact zd6
      · exact fun al e => by cases e; exact zd7
      · exact fun al e => by cases e
      · exact fun al e => by cases e
    have kA : Kept b H G30 := xA.kept bx
    refine ⟨_, rfl, b, 2, rfl, kA.bx, by decide, by decide, fun r H1 r0 r1 k1 => ?_⟩
    have f5 := k1.get kA.bx fa5 rfl
    have fL := k1.get kA.bx fL5 rfl
    have kB := kA.trans k1
    refine ⟨rfl, _, rfl, ?_⟩
    rw [dec_int]
    by_cases c0 : r = 0
    · rw [c0]
      refine iteT ?_
      refine ⟨_, rfl, _, rfl, b, 4, rfl, kB.bx, by decide, by decide, fun j H2 j0 j1 k2 => ?_⟩
      obtain ⟨v, hv, mem⟩ := at_mem (xs := [V.ref a1, .ref a2, .ref a3, .ref a4]) j0 j1
      obtain ⟨d, dk⟩ := goods v mem _ (Exd.refl _)
      refine ⟨a5, _, _, _, rfl, rfl, SqL.of (k2.get kB.bx f5 rfl), hv, by show 2 ≤ sizeLine; decide, fun q hq => ?_⟩
      generalize hG : upd _ _ _ = H3
      obtain ⟨y3, v3⟩ := obj_of hq hG
      clear hG
      exact k q v true d H3 ((kB.trans k2).trans (y3.kept k2.bx)) v3 (((dk.kb k1 kA.bx).kb k2 kB.bx).exd y3) (frG v mem)
    · rw [beq_eq_false_iff_ne.mpr c0]
      refine iteF ?_
      try dsimp only [tNext]
      refine ⟨_, rfl, b, 2, rfl, kB.bx, by decide, by decide, fun r2 H2 r20 r21 k2 => ?_⟩
      have kC := kB.trans k2
      refine ⟨rfl, _, rfl, ?_⟩
      rw [dec_int]
      by_cases e2 : r2 = 0
      · rw [e2]
        refine iteT ?_
        refine ⟨_, rfl, b, rfl, kC.bx, fun q0 xs ds H3 k3 w3 fq0 dz td row sh nb => ?_⟩
        refine gset (by (simp only [List.set_cons_succ, List.set_cons_zero]); rfl) ?_
        have kD := kC.trans k3
        refine ⟨_, rfl, _, rfl, q0, _, rfl, .inl ⟨SqL.of w3, fun tq htq => ?_⟩⟩
        generalize hG : upd _ _ _ = H4
        obtain ⟨y4, v4⟩ := obj_of htq hG
        clear hG
        refine ⟨by show 2 ≤ sizeLine; decide, fun lp hlp => ?_⟩
        generalize hG : upd _ _ _ = H5
        obtain ⟨y5, v5⟩ := obj_of hlp hG
        clear hG
        have kE := kD.trans ((y4.trans y5).kept kD.bx)
        refine ⟨_, rfl, b, 2, rfl, kE.bx, by decide, by decide, fun j H6 j0 j1 k6 => ?_⟩
        obtain ⟨v, hv, mem⟩ := at_mem (xs := [V.ref q0, V.ref tq]) j0 j1
        have nb2 : nbA ds = true := by
          have n : (nbL ds && nbA ds) = true := by simpa only [nbD] using nb
          exact (Bool.and_eq_true_iff.mp n).2
        have both : ∃ d, DrawnK K H5 v false d := by
          simp only [List.mem_cons, List.not_mem_nil, or_false] at mem
          rcases mem with rfl | rfl
          · exact ⟨.list ds, td.exd (y4.trans y5), row, sh, nb, fun z => by cases z⟩
          · refine ⟨.tuple ds, ⟨.tup (y5 _ _ v4) (dz.exd (y4.trans y5)), sz_tuple td.sz, rfl⟩, row, sh, by simp only [nbD]; exact nb2, fun z => by cases z⟩
        have fr2 : ∀ al, v = .ref al → H al = none := by
          simp only [List.mem_cons, List.not_mem_nil, or_false] at mem
          rcases mem with rfl | rfl
          · exact fun al e => by cases e; exact kC.free fq0
          · exact fun al e => by cases e; exact kD.free htq
        obtain ⟨d, dk⟩ := both
        refine ⟨lp, _, _, _, rfl, rfl, SqL.of (k6.get kE.bx v5 rfl), hv, by show 2 ≤ sizeLine; decide, fun q hq => ?_⟩
        generalize hG : upd _ _ _ = H7
        obtain ⟨y7, v7⟩ := obj_of hq hG
        clear hG
        exact k q v false d H7 ((kE.trans k6).trans (y7.kept k6.bx)) v7 ((dk.kb k6 kE.bx).exd y7) fr2
      · rw [beq_eq_false_iff_ne.mpr e2]
        refine iteF ?_
        try dsimp only [tNext]
        have fL2 := k2.get kB.bx fL rfl
        refine ⟨_, rfl, _, rfl, _, rfl, L5, _, rfl, .inl (SqL.of fL2), b, 23, rfl, kC.bx, by decide, by decide, fun j H3 j0 j1 k3 => ?_⟩
        obtain ⟨v, hv, mem⟩ := at_mem (xs := [V.ref b1, .ref b2, .non, .str "abc", .ref b3, .ref b4, .ref b5, .ref b6, .ref b7, .ref b8] ++ [V.ref c1, .ref c2, .ref c3, .ref c4, .ref c5] ++ [V.ref d1, .ref d2, .ref d3, .ref d5, .ref d6, .ref d7, .int 7, .bl true]) j0 j1
        obtain ⟨d, dk⟩ := bads v mem _ (Exd.refl _)
        refine ⟨L5, _, _, _, rfl, rfl, SqL.of (k3.get kC.bx fL2 rfl), hv, by show 2 ≤ sizeLine; decide, fun q hq => ?_⟩
        generalize hG : upd _ _ _ = H4
        obtain ⟨y4, v4⟩ := obj_of hq hG
        clear hG
        exact k q v false d H4 ((kC.trans k3).trans (y4.kept k3.bx)) v4 ((((dk.kb k1 kA.bx).kb k2 kB.bx).kb k3 kC.bx).exd y4) (frB v mem)
end
end LL
namespace LL
open PySem PySem.Spec PyProof.Rows L2
section
variable {P : Program} {w : World} {K : PySem.W.Frag} {mg : Str → Option Value} {base : Heap} {t1 t2 : Addr}
theorem Nws.nws_exd {Ps : List Addr} {H H1 H' : Hp} (x : Nws Ps H H1) (y : Exd H1 H') : Nws Ps H H' :=
  ⟨x.was, fun P hP => by obtain ⟨ps, e, t⟩ := x.tab P hP; exact ⟨ps, y _ _ e, t⟩, fun b o n e => y _ _ (x.old b o n e)⟩
theorem make_good {K : PySem.W.Frag} {C N t1 t2 x dx : Addr} {a : Addr} {f : Fr} {H : Hp} {Q : VK} {E : XK} (sq : StrSq H a f.keys) (ok : FrOk f) (tabs : ∀ P ∈ [t1, t2], GxR.TabG H P) (hx : H x = none) (hdx : H dx = none) (ne : dx ≠ x)
    (k : ∀ H', Nws [t1, t2] H H' → FrameAt C H' x f → Q .non H') : spInit K C N t1 t2 (.ref x :: ([.ref a, .int (f.days : Int), .int (f.turns : Int)] ++ [])) (upd (upd H dx (.own x)) x (.ins C dx [])) Q E := by
  have hx' : (upd H dx (.own x)) x = none := by rw [upd_ne ne.symm]; exact hx
  have xe : Exd H (upd (upd H dx (.own x)) x (.ins C dx [])) := ((Exd.refl _).new hdx).new hx'
  exact ⟨x, dx, _, _, _, rfl, upd_same, (xe.nws tabs).tab, .inl ⟨a, f, rfl, rfl, rfl, sq.exd xe, ok, fun H' fr md => k H' (md.nws hx hdx tabs) fr⟩⟩
theorem make_no {K : PySem.W.Frag} {C N t1 t2 x dx : Addr} {y d u v : V} {H : Hp} {Q : VK} {E : XK} (fb : FirstBad K H y d u v) (tabs : ∀ P ∈ [t1, t2], GxR.TabG H P) (hx : H x = none) (hdx : H dx = none) (ne : dx ≠ x) (rai : RaiW [t1, t2] N v H E) :
    spInit K C N t1 t2 (.ref x :: ([y, d, u] ++ [])) (upd (upd H dx (.own x)) x (.ins C dx [])) Q E := by
  have hx' : (upd H dx (.own x)) x = none := by rw [upd_ne ne.symm]; exact hx
  have xe : Exd H (upd (upd H dx (.own x)) x (.ins C dx [])) := ((Exd.refl _).new hdx).new hx'
  have n := xe.nws tabs
  exact ⟨x, dx, _, _, _, rfl, upd_same, n.tab, .inr ⟨v, fb.keep n.keep, rai.at n⟩⟩
def spTried (K : PySem.W.Frag) (t1 t2 : Addr) : Sp := fun vs H Q _ => ∃ (y : Int) (x d u : V), vs = [.int y, x, d, u] ∧ (∀ P ∈ [t1, t2], GxR.TabG H P) ∧
  ((y = 0 ∧ ∃ (a : Addr) (f : Fr), x = .ref a ∧ d = .int (f.days : Int) ∧ u = .int (f.turns : Int) ∧ StrSq H a f.keys ∧ FrOk f ∧ ∀ q p H', Nws [t1, t2] H H' → H p = none → H' p = some (.tup [.str "told", .ref q]) → ToldAt H' q f → Q (.ref p) H') ∨
   (y = 0 ∧ ∃ v, FirstBad K H x d u v ∧ ∀ p H', Nws [t1, t2] H H' → H p = none → H' p = some (.tup [.str "none", v]) → Q (.ref p) H') ∨
   (y = 1 ∧ ∃ (q : Addr) (f : Fr), x = .ref q ∧ ToldAt H q f ∧ FrOk f ∧ ∀ q p H', Nws [t1, t2] H H' → H p = none → H' p = some (.tup [.str "told", .ref q]) → ToldAt H' q f → Q (.ref p) H') ∨
   (y = 1 ∧ NoTell K H x ∧ ∀ p H', Nws [t1, t2] H H' → H p = none → H' p = some (.tup [.str "none", x]) → Q (.ref p) H'))
theorem ok__law_tried (D : Defs K mg) (T : Tx K mg) (B : Cd D base t1 t2) : FnG P w K mg base 11 D._law_tried.f D._law_tried.fd ["_law_way", "_law_keys_here", "_law_days", "_law_turns"] (spTried K t1 t2) := by
  have GFrame___init__ := ok_Frame___init__ (P := P) (w := w) (base := base) D T B
  have GFrame_told := ok_Frame_told (P := P) (w := w) (base := base) D T
  have Gframe_of := ok_frame_of (P := P) (w := w) (base := base) D T B
  refine fnG_of D._law_tried.F scLtried (fun vs H Q E h => ?_) (fun cdv A outer s H vs Q E guard hr h => ?_)
  · obtain ⟨y, x, d, u, rfl, _⟩ := h
    rfl
  · obtain ⟨y, x, d, u, rfl, tabs, h⟩ := h
    refine ⟨_, (pss_cons (ps_set (i := 4) scLtried.nd rfl (Or.inl rfl) pe_non)
        (pss_cons (ps_try_manyA rfl rfl scLtried.nd (fun W pn xe tk _ => (pss_one (ps_if (pt_cmpR op_eq (pv 0) pe_int (nomark _)) (pss_one (ps_set (i := 4) scLtried.nd rfl (Or.inl rfl) (pe_tup (pa_cons pe_str (pa_cons (pmeth0 D.Frame_told GFrame_told D.clFrame hr (by decide) (pmakeX D.mkFrame D.Frame___init__.b GFrame___init__ tk hr (by decide) (by rfl) D.g_Frame (pa_cons (pv 1) (pa_cons (pv 2) (pa_cons (pv 3) pa_nil))))) pa_nil))))) (pss_one (ps_set (i := 4) scLtried.nd rfl (Or.inl rfl) (pe_tup (pa_cons pe_str (pa_cons (pmeth0 D.Frame_told GFrame_told D.clFrame hr (by decide) (pcallX D.frame_of Gframe_of tk hr (by decide) (by rfl) (pa_cons (pv 1) pa_nil))) pa_nil)))))))) (.named (i := 5) rfl rfl ⟨rfl, by decide, .inl D.erNoFrame.g⟩ (fun a oe cls d pn hz hf => (pss_one (ps_set (i := 4) scLtried.nd rfl (Or.inl rfl) (pe_tup (pa_cons pe_str (pa_cons (pe_fldE (X := (cxOf CX0 P w K mg base scLtried_N "_law_tried" (defScope scLtried_st) D._law_tried.f cdv A outer s H E).nox) D.erNoFrame hz hf (pv 5)) pa_nil)))))) (.plain ⟨rfl, by decide, .inl D.lore.g⟩ (fun a oe cls d pn hz hf => (pss_one (ps_set (i := 4) scLtried.nd rfl (Or.inl rfl) pe_non))) .nil)))
        (pss_one (ps_ret (pv 4))))), ?_⟩
    have hst : L2.start scLtried_N [V.int y, x, d, u] = [some (.int y), some x, some d, some u, none, none] := rfl
    rw [hst]
    refine ⟨_, rfl, rfl, _, rfl, ?_⟩
    rw [dec_int]
    -- a frame was made
    have told : ∀ (f : Fr) (p : Addr) (H' : Hp) (Q' : VK), FrameAt D.cFrame H' p f → (∀ q H2, Exd H' H2 → ToldAt H2 q f → Q' (.ref q) H2) →
        ∃ a dx fs, V.ref p = .ref a ∧ H' a = some (.ins D.cFrame dx fs) ∧ fs.lookup ("told" : Str) = none ∧ tNil [some (V.int y), some x, some d, some u, some V.non, none] H' fun vs H2 => spTold D.cFrame (V.ref p :: (vs ++ [])) H2 Q' E0 := by
      intro f p H' Q' fr k
      obtain ⟨dx, dd, e1, e2⟩ := id fr
      exact ⟨p, dx, _, rfl, e1, flds_no _ _ _ m3.1 m3.2.1 m3.2.2, p, f, rfl, fr, fun q H2 hq x2 o2 => k q H2 x2 o2⟩
    rcases h with ⟨rfl, a, f, rfl, rfl, rfl, sq, ok, k⟩ | ⟨rfl, v, fb, k⟩ | ⟨rfl, q, f, rfl, ta, ok, k⟩ | ⟨rfl, nt, k⟩
    · rw [show ((0 : Int) == 0) = true from rfl]
      refine iteT ?_
      refine ⟨_, rfl, _, rfl, _, rfl, ?_⟩
      refine fun px dxx hpx hdx ne => ?_
      refine make_good sq ok tabs hpx hdx ne fun H1 n1 fr => ⟨rfl, ?_⟩
      refine told f px H1 _ fr fun q H2 x2 tq => ?_
      refine ⟨by show 2 ≤ sizeLine; decide, fun pt hpt => ?_⟩
      generalize hG : upd _ _ _ = H3
      obtain ⟨x3, w3⟩ := obj_of hpt hG
      clear hG
      refine gset (by (simp only [List.set_cons_succ, List.set_cons_zero]); rfl) ?_
      have n3 := (n1.nws_exd x2).nws_exd x3
      exact ⟨_, rfl, k q pt H3 n3 ((n1.nws_exd x2).free hpt) w3 (tq.exd x3)⟩
    · rw [show ((0 : Int) == 0) = true from rfl]
      refine iteT ?_
      refine ⟨_, rfl, _, rfl, _, rfl, ?_⟩
      refine fun px dxx hpx hdx ne => ?_
      refine make_no fb tabs hpx hdx ne fun dd H1 n1 hd e1 => ?_
      refine ⟨true, D.erNoFrame.te, fun _ a ha => ?_, fun z => by cases z⟩
      refine ⟨_, rfl, rfl, rfl, dd, _, v, rfl, e1, rfl, by show 2 ≤ sizeLine; decide, fun p hp => ?_⟩
      generalize hG : upd _ _ _ = H2
      obtain ⟨x2, w2⟩ := obj_of hp hG
      clear hG
      refine gset (by (simp only [List.set_cons_succ, List.set_cons_zero]); rfl) ?_
      exact ⟨_, rfl, k p H2 (n1.nws_exd x2) (n1.free hp) w2⟩
    · rw [show ((1 : Int) == 0) = false from rfl]
      refine iteF ?_
      refine ⟨_, rfl, .ref q, rfl, tabs, .inl ⟨q, f, rfl, ta, ok, fun p H1 hp n1 fr => ?_⟩⟩
      refine told f p H1 _ fr fun q H2 x2 tq => ?_
      refine ⟨by show 2 ≤ sizeLine; decide, fun pt hpt => ?_⟩
      generalize hG : upd _ _ _ = H3
      obtain ⟨x3, w3⟩ := obj_of hpt hG
      clear hG
      refine gset (by (simp only [List.set_cons_succ, List.set_cons_zero]); rfl) ?_
      have n3 := (n1.nws_exd x2).nws_exd x3
      exact ⟨_, rfl, k q pt H3 n3 ((n1.nws_exd x2).free hpt) w3 (tq.exd x3)⟩
    · rw [show ((1 : Int) == 0) = false from rfl]
      refine iteF ?_
      refine ⟨_, rfl, x, rfl, tabs, .inr ⟨nt, fun dd H1 n1 hd e1 => ?_⟩⟩
      refine ⟨true, D.erNoFrame.te, fun _ a ha => ?_, fun z => by cases z⟩
      refine ⟨_, rfl, rfl, rfl, dd, _, x, rfl, e1, rfl, by show 2 ≤ sizeLine; decide, fun p hp => ?_⟩
      generalize hG : upd _ _ _ = H2
      obtain ⟨x2, w2⟩ := obj_of hp hG
      clear hG
      refine gset (by (simp only [List.set_cons_succ, List.set_cons_zero]); rfl) ?_
      exact ⟨_, rfl, k p H2 (n1.nws_exd x2) (n1.free hp) w2⟩
end
end LL
namespace LL
open PySem PySem.Spec PyProof.Rows L2
theorem sz_one {d : PyData} {k W : Nat} (h : Sz d k W) : Sz (.list [d]) (k + 1) (W + 1) := by
  refine (szAll_of (ds := [d]) fun e he => by rw [List.mem_singleton.mp he]; exact h).list.mono (Nat.le_refl _) ?_
  show (W + 1) * 1 ≤ W + 1
  omega
theorem sz_two {d e : PyData} {k W l U : Nat} (h : Sz d k W) (g : Sz e l U) : Sz (.tuple [d, e]) (max k l + 1) (W + 1 + (U + 1)) := by
  have t := (SzAll.cons h (SzAll.cons g szAll_nil)).tuple
  refine t.mono ?_ ?_
  · omega
  · omega
theorem TellD.nws {Ps : List Addr} {H H' : Hp} {x : V} {d : PyData} (h : TellD H x d) (n : Nws Ps H H') : TellD H' x d := ⟨h.dz.keep n.keep, h.sz, h.io⟩
section
variable {P : Program} {w : World} {K : PySem.W.Frag} {mg : Str → Option Value} {base : Heap} {t1 t2 : Addr}
def spKeyRef (K : PySem.W.Frag) (C t1 t2 : Addr) : Sp := fun vs H Q _ => ∃ (p : Addr) (f : Fr) (x : V) (d : PyData), vs = [.ref p, x] ∧ FrameAt C H p f ∧ KeysOk f.keys ∧ (∀ P ∈ [t1, t2], GxR.TabG H P) ∧ TellD H x d ∧ short x ∧ isKeyV f.keys x = false ∧ ∀ H', Nws [t1, t2] H H' → Q (.bl true) H'
theorem ok__law_key_refused (D : Defs K mg) (T : Tx K mg) (B : Cd D base t1 t2) : FnG P w K mg base 6 D._law_key_refused.f D._law_key_refused.fd ["_law_frame", "_law_thing"] (spKeyRef K D.cFrame t1 t2) := by
  have GFrame_place_of := ok_Frame_place_of (P := P) (w := w) (base := base) D T B
  refine fnG_of D._law_key_refused.F scLkeyrefused (fun vs H Q E h => ?_) (fun cdv A outer s H vs Q E guard hr h => ?_)
  · obtain ⟨p, f, x, d, rfl, _⟩ := h
    rfl
  · obtain ⟨p, f, x, d, rfl, fr, ok, tabs, td, sh, no, k⟩ := h
    refine ⟨_, (pss_cons (ps_set (i := 2) scLkeyrefused.nd rfl (Or.inl rfl) pe_non)
        (pss_cons (ps_try_manyA rfl rfl scLkeyrefused.nd (fun W pn xe tk _ => (pss_one (ps_expr (pmethX D.Frame_place_of.h D.Frame_place_of.b GFrame_place_of tk D.clFrame hr (by decide) (pv 0) (pa_cons (pv 1) pa_nil))))) (.named (i := 3) rfl rfl ⟨rfl, by decide, .inl D.erNoKey.g⟩ (fun a oe cls d pn hz hf => (pss_one (ps_set (i := 2) scLkeyrefused.nd rfl (Or.inl rfl) (pe_lst (pa_cons (pe_fldE (X := (cxOf CX0 P w K mg base scLkeyrefused_N "_law_key_refused" (defScope scLkeyrefused_st) D._law_key_refused.f cdv A outer s H E).nox) D.erNoKey hz hf (pv 3)) pa_nil))))) (.plain ⟨rfl, by decide, .inl D.lore.g⟩ (fun a oe cls d pn hz hf => (pss_one (ps_set (i := 2) scLkeyrefused.nd rfl (Or.inl rfl) pe_non))) .nil)))
        (pss_one (ps_ret (pe_cmpR op_eq (pe_callB (call_reprA guard hr) (by rfl) T.b_repr (by decide +kernel) (pa_cons (pv 2) pa_nil)) (pe_callB (call_reprA guard hr) (by rfl) T.b_repr (by decide +kernel) (pa_cons (pe_lst (pa_cons (pv 1) pa_nil)) pa_nil)) (nomark _)))))), ?_⟩
    have hst : L2.start scLkeyrefused_N [V.ref p, x] = [some (.ref p), some x, none, none] := rfl
    rw [hst]
    obtain ⟨dx, dd0, e1, e2⟩ := id fr
    refine ⟨_, rfl, p, dx, _, rfl, e1, flds_no _ _ _ m6.1 m6.2.1 m6.2.2, _, rfl, p, f, x, rfl, fr, ok, tabs, td.dz.thing, sh, no, fun dd H1 n1 hd ed => ?_⟩
    refine ⟨true, D.erNoKey.te, fun _ a ha => ?_, fun z => by cases z⟩
    refine ⟨_, rfl, rfl, rfl, dd, _, x, rfl, ed, rfl, by show 1 ≤ sizeLine; decide, fun l hl => ?_⟩
    generalize hG : upd _ _ _ = H2
    obtain ⟨x2, w2⟩ := obj_of hl hG
    clear hG
    refine gset (by (simp only [List.set_cons_succ, List.set_cons_zero]); rfl) ?_
    have n2 := n1.nws_exd x2
    have td2 := td.nws n2
    have s1 : Sz (.list [d]) 60 200000 := (sz_one td.sz).mono (by decide) (by decide)
    refine ⟨_, rfl, _, .list [d], rfl, .lst w2 (.cons td2.dz .nil), rfl, s1, ?_⟩
    refine ⟨_, rfl, by show 1 ≤ sizeLine; decide, fun l2 hl2 => ?_⟩
    generalize hG : upd _ _ _ = H3
    obtain ⟨x3, w3⟩ := obj_of hl2 hG
    clear hG
    refine ⟨_, .list [d], rfl, .lst w3 (.cons (td2.exd x3).dz .nil), rfl, s1, ?_⟩
    refine ⟨rfl, ?_⟩
    rw [decide_eq_true rfl]
    exact k H3 (n2.nws_exd x3)
end
end LL
namespace LL
open PySem PySem.Spec PyProof.Rows L2
theorem Bx.ne {H : Hp} {p q : Addr} (b : Bx H p) (h : H q = none) : q ≠ p := fun z => by
  obtain ⟨o, e, _⟩ := b
  rw [z, e] at h
  cases h
/-! ### what is kept through a case: all but the box and the tables -/
structure Go (Ts : List Addr) (b : Addr) (H H' : Hp) : Prop where
  old : ∀ a o, a ∉ Ts → a ≠ b → H a = some o → H' a = some o
  bx0 : Bx H b
  bx : Bx H' b
  tab0 : ∀ R ∈ Ts, GxR.TabG H R
  tab : ∀ R ∈ Ts, GxR.TabG H' R
theorem Nws.bx {Ps : List Addr} {a : Addr} {H H' : Hp} (n : Nws Ps H H') (bx : Bx H a) : Bx H' a := by
  obtain ⟨o, e, x, y, z, rfl, b⟩ := bx
  exact ⟨_, n.lst e, x, y, z, rfl, b⟩
section
variable {Ts : List Addr} {b : Addr} {H H1 H2 : Hp}
theorem Go.refl (bx : Bx H b) (t : ∀ R ∈ Ts, GxR.TabG H R) : Go Ts b H H := ⟨fun _ _ _ _ e => e, bx, bx, t, t⟩
theorem Go.trans (g : Go Ts b H H1) (h : Go Ts b H1 H2) : Go Ts b H H2 := ⟨fun a o n m e => h.old a o n m (g.old a o n m e), g.bx0, h.bx, g.tab0, h.tab⟩
theorem Go.kept (g : Go Ts b H H1) (k : Kept b H1 H2) : Go Ts b H H2 := ⟨fun a o n m e => k.old a o m (g.old a o n m e), g.bx0, k.bx, g.tab0, fun R hR => k.tab g.bx (g.tab R hR)⟩
theorem Go.nws (g : Go Ts b H H1) (n : Nws Ts H1 H2) : Go Ts b H H2 := ⟨fun a o h m e => n.old a o h (g.old a o h m e), g.bx0, n.bx g.bx, g.tab0, n.tab⟩
theorem Go.exd (g : Go Ts b H H1) (x : Exd H1 H2) : Go Ts b H H2 := g.nws ((Nws.refl g.tab).nws_exd x)
theorem Go.put {p : Addr} {u o : HO} (g : Go Ts b H H1) (hp : H p = none) (ho : H1 p = some o) (n : ∀ q, o ≠ .tbl q) : Go Ts b H (upd H1 p u) := by
  have nb : p ≠ b := g.bx0.ne hp
  refine ⟨fun a o2 h m e => by rw [upd_ne (ne_of_none e hp)]; exact g.old a o2 h m e, g.bx0, ?_, g.tab0, fun R hR => tab_upd (g.tab R hR) (fun z => tab_ne (g.tab R hR) ho n z.symm)⟩
  obtain ⟨ob, e, bo⟩ := g.bx
  exact ⟨ob, by rw [upd_ne (fun z => nb z.symm)]; exact e, bo⟩
theorem Go.get {a : Addr} {o : HO} (g : Go Ts b H H1) (e : H a = some o) (nb : noBox o = true) (nt : ∀ q, o ≠ .tbl q) : H1 a = some o := by
  refine g.old a o (tabs_ne g.tab0 e nt) (fun z => ?_) e
  obtain ⟨ob, eb, x0, y0, z0, rfl, _⟩ := g.bx0
  rw [z, eb] at e
  cases e
  cases nb
end
theorem call_tupS {X : Cx} : CallR X (.type "tuple") (fun xs H Q => ∃ (a : Addr) (ks : List Str), xs = [.ref a] ∧ StrSq H a ks ∧ ∀ T H', Exd H H' → H' T = some (.tup (ks.map V.str)) → Q (.ref T) H') := by
  intro pins s σ H xs us Q I rr h
  obtain ⟨a, ks, rfl, sq, k⟩ := h
  refine call_tuple_of pins s σ H _ us Q I rr ⟨a, ks.map V.str, rfl, ?_⟩
  rcases sq with w | w
  · exact .inl ⟨SqL.of w, fun l hl => k l _ ((Exd.refl H).new hl) upd_same⟩
  · exact .inr ⟨SqT.of w, k a H (Exd.refl H) w⟩
theorem call_lisS {X : Cx} : CallR X (.type "list") (fun xs H Q => ∃ (a : Addr) (ks : List Str), xs = [.ref a] ∧ StrSq H a ks ∧ ∀ l, H l = none → Q (.ref l) (upd H l (.lst (ks.map V.str)))) := by
  intro pins s σ H xs us Q I rr h
  obtain ⟨a, ks, rfl, sq, k⟩ := h
  exact call_list_of pins s σ H _ us Q I rr ⟨a, ks.map V.str, rfl, sq.imp SqL.of SqT.of, k⟩
section
variable {P : Program} {w : World} {K : PySem.W.Frag} {mg : Str → Option Value} {base : Heap} {t1 t2 : Addr}
def spToldR (t1 t2 : Addr) : Sp := fun vs H Q _ => ∃ (b a : Addr) (f : Fr), vs = [.ref b, .ref a, .int (f.days : Int), .int (f.turns : Int)] ∧ Bx H b ∧ (∀ P ∈ [t1, t2], GxR.TabG H P) ∧ StrSq H a f.keys ∧ FrOk f ∧ ∀ H', Go [t1, t2] b H H' → Q (.bl true) H'
theorem ok__law_told_right (D : Defs K mg) (T : Tx K mg) (B : Cd D base t1 t2) : FnG P w K mg base 12 D._law_told_right.f D._law_told_right.fd ["_law_box_here", "_law_keys_here", "_law_days", "_law_turns"] (spToldR t1 t2) := by
  have G_law_take := ok__law_take (P := P) (w := w) (base := base) D T
  have G_law_tried := ok__law_tried (P := P) (w := w) (base := base) D T B
  refine fnG_of D._law_told_right.F scLtoldright (fun vs H Q E h => ?_) (fun cdv A outer s H vs Q E guard hr h => ?_)
  · obtain ⟨b, a, f, rfl, _⟩ := h
    rfl
  · obtain ⟨b, a, f, rfl, bx, tabs, sq, ok, k⟩ := h
    refine ⟨_, (pss_cons (ps_set (i := 4) scLtoldright.nd rfl (Or.inl rfl) (pe_tup (pa_cons (pe_callTy call_tupS (by rfl) T.b_tuple (by decide +kernel) (pa_cons (pv 1) pa_nil)) (pa_cons (pv 2) (pa_cons (pv 3) pa_nil)))))
        (pss_cons (ps_set (i := 5) scLtoldright.nd rfl (Or.inl rfl) (pe_lst (pa_cons (pe_callTy call_list_of (by rfl) T.b_list (by decide +kernel) (pa_cons (pv 4) pa_nil)) (pa_cons (pe_slice sl_tupA (pv 4) po_none (po_some pe_int)) (pa_cons (pe_op op_catT (pv 4) (pe_tup (pa_cons pe_int pa_nil))) (pa_cons (pe_tup (pa_cons (pe_callTy call_lisS (by rfl) T.b_list (by decide +kernel) (pa_cons (pv 1) pa_nil)) (pa_cons (pv 2) (pa_cons (pv 3) pa_nil)))) (pa_cons (pe_tup (pa_cons (pe_callTy call_tupS (by rfl) T.b_tuple (by decide +kernel) (pa_cons (pv 1) pa_nil)) (pa_cons (pv 3) pa_nil))) pa_nil)))))))
        (pss_cons (ps_set (i := 5) scLtoldright.nd rfl (Or.inl rfl) (pe_op op_cat (pv 5) (pe_lst (pa_cons (pe_tup (pa_cons (pv 2) (pa_cons (pe_callTy call_tupS (by rfl) T.b_tuple (by decide +kernel) (pa_cons (pv 1) pa_nil)) (pa_cons (pv 3) pa_nil)))) (pa_cons pe_non (pa_cons pe_str (pa_cons pe_dnewK (pa_cons (pe_tup (pa_cons (pe_callTy call_tupS (by rfl) T.b_tuple (by decide +kernel) (pa_cons (pv 1) pa_nil)) (pa_cons pe_int (pa_cons (pv 3) pa_nil)))) pa_nil))))))))
        (pss_cons (ps_set (i := 5) scLtoldright.nd rfl (Or.inl rfl) (pe_op op_cat (pv 5) (pe_lst (pa_cons (pe_tup (pa_cons (pe_callTy call_tupS (by rfl) T.b_tuple (by decide +kernel) (pa_cons (pv 1) pa_nil)) (pa_cons (pv 2) (pa_cons pe_bl pa_nil)))) (pa_cons (pe_tup (pa_cons (pe_op op_repT (pe_callTy call_tupS (by rfl) T.b_tuple (by decide +kernel) (pa_cons (pv 1) pa_nil)) pe_int) (pa_cons (pv 2) (pa_cons (pv 3) pa_nil)))) pa_nil)))))
        (pss_cons (ps_set (i := 6) scLtoldright.nd rfl (Or.inl rfl) (pe_ix ix_list (pv 5) (pcall D._law_take G_law_take hr (by decide) (by rfl) (pa_cons (pv 0) (pa_cons (pe_callB call_len_seq (by rfl) T.b_len (by decide +kernel) (pa_cons (pv 5) pa_nil)) pa_nil))) (fun _ _ => rfl)))
        (pss_cons (ps_if (pt_cmpR op_ne (pe_callB (call_reprA guard hr) (by rfl) T.b_repr (by decide +kernel) (pa_cons (pcallG D._law_tried G_law_tried guard hr (by decide) (by rfl) (pa_cons pe_int (pa_cons (pv 6) (pa_cons pe_int (pa_cons pe_int pa_nil))))) pa_nil)) (pe_callB (call_reprA guard hr) (by rfl) T.b_repr (by decide +kernel) (pa_cons (pe_tup (pa_cons pe_str (pa_cons (pv 6) pa_nil))) pa_nil)) (nomark _)) (pss_one (ps_ret pe_bl)) pss_nil)
        (pss_one (ps_ret (pe_cmpR op_eq (pe_callB (call_reprA guard hr) (by rfl) T.b_repr (by decide +kernel) (pa_cons (pcallG D._law_tried G_law_tried guard hr (by decide) (by rfl) (pa_cons pe_int (pa_cons (pv 4) (pa_cons pe_int (pa_cons pe_int pa_nil))))) pa_nil)) (pe_callB (call_reprA guard hr) (by rfl) T.b_repr (by decide +kernel) (pa_cons (pe_tup (pa_cons pe_str (pa_cons (pv 4) pa_nil))) pa_nil)) (nomark _)))))))))), ?_⟩
    have hst : L2.start scLtoldright_N [V.ref b, V.ref a, V.int (f.days : Int), V.int (f.turns : Int)] = [some (.ref b), some (.ref a), some (.int (f.days : Int)), some (.int (f.turns : Int)), none, none, none] := rfl
    rw [hst]
    refine ⟨_, rfl, a, f.keys, rfl, sq, fun T0 H1 x1 w1 => ?_⟩
    refine ⟨_, rfl, _, rfl, by show 3 ≤ sizeLine; decide, fun q0 hq0 => ?_⟩
    generalize hG : upd _ _ _ = H2
    obtain ⟨x2, w2⟩ := obj_of hq0 hG
    clear hG
    refine gset (by (simp only [List.set_cons_succ, List.set_cons_zero]); rfl) ?_
    refine ⟨_, rfl, q0, _, rfl, .inr (SqT.of w2), fun l0 hl0 => ?_⟩
    generalize hG : upd _ _ _ = H3
    obtain ⟨x3, w3⟩ := obj_of hl0 hG
    clear hG
    refine ⟨_, rfl, (2 : Int), rfl, q0, _, rfl, SqT.of (x3 _ _ w2), fun z => absurd z.2 (by show ¬ HT.sIx 3 3 (some 2) = 3; decide), fun z p1 hp1 => ?_⟩
    generalize hG : upd _ _ _ = H4
    obtain ⟨x4, w4⟩ := obj_of hp1 hG
    clear hG
    refine ⟨_, rfl, by show 1 ≤ sizeLine; decide, fun z0 hz0 => ?_⟩
    generalize hG : upd _ _ _ = H5
    obtain ⟨x5, w5⟩ := obj_of hz0 hG
    clear hG
    refine ⟨q0, z0, _, _, rfl, rfl, SqT.of ((x3.trans (x4.trans x5)) _ _ w2), SqT.of w5, (fun z => by cases z), by show 4 ≤ sizeLine; decide, (fun z => by cases z), fun _ p2 hp2 => ?_⟩
    generalize hG : upd _ _ _ = H6
    obtain ⟨x6, w6⟩ := obj_of hp2 hG
    clear hG
    have y6 := ((((x1.trans x2).trans x3).trans x4).trans x5).trans x6
    refine ⟨_, rfl, a, f.keys, rfl, sq.exd y6, fun l1 hl1 => ?_⟩
    generalize hG : upd _ _ _ = H7
    obtain ⟨x7, w7⟩ := obj_of hl1 hG
    clear hG
    refine ⟨_, rfl, _, rfl, by show 3 ≤ sizeLine; decide, fun p3 hp3 => ?_⟩
    generalize hG : upd _ _ _ = H8
    obtain ⟨x8, w8⟩ := obj_of hp3 hG
    clear hG
    have y8 := (y6.trans x7).trans x8
    refine ⟨_, rfl, a, f.keys, rfl, sq.exd y8, fun T4 H9 x9 w9 => ?_⟩
    refine ⟨_, rfl, by show 2 ≤ sizeLine; decide, fun p4 hp4 => ?_⟩
    generalize hG : upd _ _ _ = H10
    obtain ⟨x10, w10⟩ := obj_of hp4 hG
    clear hG
    refine ⟨by show 5 ≤ sizeLine; decide, fun L1 hL1 => ?_⟩
    generalize hG : upd _ _ _ = H11
    obtain ⟨x11, w11⟩ := obj_of hL1 hG
    clear hG
    refine gset (by (simp only [List.set_cons_succ, List.set_cons_zero]); rfl) ?_
    have y11 := ((y8.trans x9).trans x10).trans x11
    refine ⟨_, rfl, _, rfl, _, rfl, a, f.keys, rfl, sq.exd y11, fun T5 H12 x12 w12 => ?_⟩
    refine ⟨_, rfl, by show 3 ≤ sizeLine; decide, fun p5 hp5 => ?_⟩
    generalize hG : upd _ _ _ = H13
    obtain ⟨x13, w13⟩ := obj_of hp5 hG
    clear hG
    refine fun dd hdd => ?_
    generalize hG : upd _ _ _ = H14
    obtain ⟨x14, w14⟩ := obj_of hdd hG
    clear hG
    have y14 := ((y11.trans x12).trans x13).trans x14
    refine ⟨_, rfl, a, f.keys, rfl, sq.exd y14, fun T9 H15 x15 w15 => ?_⟩
    refine ⟨_, rfl, by show 3 ≤ sizeLine; decide, fun p9 hp9 => ?_⟩
    generalize hG : upd _ _ _ = H16
    obtain ⟨x16, w16⟩ := obj_of hp9 hG
    clear hG
    refine ⟨by show 5 ≤ sizeLine; decide, fun L2 hL2 => ?_⟩
    generalize hG : upd _ _ _ = H17
    obtain ⟨x17, w17⟩ := obj_of hL2 hG
    clear hG
    refine ⟨_, _, _, _, rfl, rfl, (((((x12.trans x13).trans x14).trans x15).trans x16).trans x17) _ _ w11, w17, by show 10 ≤ sizeLine; decide, fun L3 hL3 => ?_⟩
    generalize hG : upd _ _ _ = H18
    obtain ⟨x18, w18⟩ := obj_of hL3 hG
    clear hG
    refine gset (by (simp only [List.set_cons_succ, List.set_cons_zero]); rfl) ?_
    have y18 := (((y14.trans x15).trans x16).trans x17).trans x18
    refine ⟨_, rfl, _, rfl, a, f.keys, rfl, sq.exd y18, fun TA H19 x19 w19 => ?_⟩
    refine ⟨_, rfl, by show 3 ≤ sizeLine; decide, fun pA hpA => ?_⟩
    generalize hG : upd _ _ _ = H20
    obtain ⟨x20, w20⟩ := obj_of hpA hG
    clear hG
    have y20 := (y18.trans x19).trans x20
    refine ⟨_, rfl, a, f.keys, rfl, sq.exd y20, fun TB H21 x21 w21 => ?_⟩
    have one := ok.ks.one
    have most := ok.ks.most
    have lks : (f.keys.map V.str).length = f.keys.length := List.length_map _
    refine ⟨TB, 2, _, rfl, rfl, SqT.of w21, (fun z => by have := congrArg List.length z; rw [lks] at this; simp only [List.length_nil] at this; omega), by decide, by decide, by rw [lks]; omega, fun TC hTC => ?_⟩
    generalize hG : upd _ _ _ = H22
    obtain ⟨x22, w22⟩ := obj_of hTC hG
    clear hG
    refine ⟨_, rfl, _, rfl, by show 3 ≤ sizeLine; decide, fun pB hpB => ?_⟩
    generalize hG : upd _ _ _ = H23
    obtain ⟨x23, w23⟩ := obj_of hpB hG
    clear hG
    refine ⟨by show 2 ≤ sizeLine; decide, fun L4 hL4 => ?_⟩
    generalize hG : upd _ _ _ = H24
    obtain ⟨x24, w24⟩ := obj_of hL4 hG
    clear hG
    refine ⟨_, _, _, _, rfl, rfl, (((((x19.trans x20).trans x21).trans x22).trans x23).trans x24) _ _ w18, w24, by show 12 ≤ sizeLine; decide, fun L5 hL5 => ?_⟩
    generalize hG : upd _ _ _ = H25
    obtain ⟨x25, w25⟩ := obj_of hL5 hG
    clear hG
    refine gset (by (simp only [List.set_cons_succ, List.set_cons_zero]); rfl) ?_
    have w22' : H22 TC = some (.tup ((f.keys ++ f.keys).map V.str)) := by
      rw [w22]
      show some (HO.tup (f.keys.map V.str ++ (f.keys.map V.str ++ []))) = _
      rw [List.append_nil, List.map_append]
    have fT0 := (((((((((((((((((((((((x2.trans x3).trans x4).trans x5).trans x6).trans x7).trans x8).trans x9).trans x10).trans x11).trans x12).trans x13).trans x14).trans x15).trans x16).trans x17).trans x18).trans x19).trans x20).trans x21).trans x22).trans x23).trans x24).trans x25) _ _ w1
    have fq0 := ((((((((((((((((((((((x3.trans x4).trans x5).trans x6).trans x7).trans x8).trans x9).trans x10).trans x11).trans x12).trans x13).trans x14).trans x15).trans x16).trans x17).trans x18).trans x19).trans x20).trans x21).trans x22).trans x23).trans x24).trans x25) _ _ w2
    have fl0 := (((((((((((((((((((((x4.trans x5).trans x6).trans x7).trans x8).trans x9).trans x10).trans x11).trans x12).trans x13).trans x14).trans x15).trans x16).trans x17).trans x18).trans x19).trans x20).trans x21).trans x22).trans x23).trans x24).trans x25) _ _ w3
    have fp1 := ((((((((((((((((((((x5.trans x6).trans x7).trans x8).trans x9).trans x10).trans x11).trans x12).trans x13).trans x14).trans x15).trans x16).trans x17).trans x18).trans x19).trans x20).trans x21).trans x22).trans x23).trans x24).trans x25) _ _ w4
    have fp2 := ((((((((((((((((((x7.trans x8).trans x9).trans x10).trans x11).trans x12).trans x13).trans x14).trans x15).trans x16).trans x17).trans x18).trans x19).trans x20).trans x21).trans x22).trans x23).trans x24).trans x25) _ _ w6
    have fl1 := (((((((((((((((((x8.trans x9).trans x10).trans x11).trans x12).trans x13).trans x14).trans x15).trans x16).trans x17).trans x18).trans x19).trans x20).trans x21).trans x22).trans x23).trans x24).trans x25) _ _ w7
    have fp3 := ((((((((((((((((x9.trans x10).trans x11).trans x12).trans x13).trans x14).trans x15).trans x16).trans x17).trans x18).trans x19).trans x20).trans x21).trans x22).trans x23).trans x24).trans x25) _ _ w8
    have fT4 := (((((((((((((((x10.trans x11).trans x12).trans x13).trans x14).trans x15).trans x16).trans x17).trans x18).trans x19).trans x20).trans x21).trans x22).trans x23).trans x24).trans x25) _ _ w9
    have fp4 := ((((((((((((((x11.trans x12).trans x13).trans x14).trans x15).trans x16).trans x17).trans x18).trans x19).trans x20).trans x21).trans x22).trans x23).trans x24).trans x25) _ _ w10
    have fT5 := ((((((((((((x13.trans x14).trans x15).trans x16).trans x17).trans x18).trans x19).trans x20).trans x21).trans x22).trans x23).trans x24).trans x25) _ _ w12
    have fp5 := (((((((((((x14.trans x15).trans x16).trans x17).trans x18).trans x19).trans x20).trans x21).trans x22).trans x23).trans x24).trans x25) _ _ w13
    have fdd := ((((((((((x15.trans x16).trans x17).trans x18).trans x19).trans x20).trans x21).trans x22).trans x23).trans x24).trans x25) _ _ w14
    have fT9 := (((((((((x16.trans x17).trans x18).trans x19).trans x20).trans x21).trans x22).trans x23).trans x24).trans x25) _ _ w15
    have fp9 := ((((((((x17.trans x18).trans x19).trans x20).trans x21).trans x22).trans x23).trans x24).trans x25) _ _ w16
    have fTA := (((((x20.trans x21).trans x22).trans x23).trans x24).trans x25) _ _ w19
    have fpA := ((((x21.trans x22).trans x23).trans x24).trans x25) _ _ w20
    have fpB := (x24.trans x25) _ _ w23
    have fTC := ((x23.trans x24).trans x25) _ _ w22'
    have y25 := (((((y20.trans x21).trans x22).trans x23).trans x24).trans x25)
    clear x1 x2 x3 x4 x5 x6 x7 x8 x9 x10 x11 x12 x13 x14 x15 x16 x17 x18 x19 x20 x21 x22 x23 x24 x25 y6 y8 y11 y14 y18 y20 w1 w2 w3 w4 w5 w6 w7 w8 w9 w10 w11 w12 w13 w14 w15 w16 w17 w18 w19 w20 w21 w22 w23 w24 w22'
    have kd : f.keys.map PyData.str = f.keys.map PyData.str := rfl
    have skey := fun (y : Str) (hy : y ∈ f.keys) => item_str (z := y) (fun c hc => by
      have n := ok.ks.names y hy
      have h : (writ (.str y) LET 8 && !decide (y ∈ ownW)) = true := n
      have h1 : ((decide (1 ≤ (y.length : Int)) && decide ((y.length : Int) ≤ 8)) && allIn LET y) = true := (Bool.and_eq_true_iff.mp h).1
      exact let_low c (of_decide_eq_true (List.all_eq_true.mp (Bool.and_eq_true_iff.mp h1).2 c hc))) (by have := name_len (ok.ks.names y hy); omega)
    have zs : ∀ zs : List Str, (∀ y ∈ zs, y ∈ f.keys) → zs.length ≤ 24 → SzAll (zs.map PyData.str) 0 240 := fun zs h l => by
      refine (szAll_of (k := 0) (W := 8) fun d hd => ?_).mono (Nat.le_refl _) (by rw [List.length_map]; omega)
      obtain ⟨y, hy, rfl⟩ := List.mem_map.mp hd
      exact str_sz (fun c hc => by
        have n := ok.ks.names y (h y hy)
        have h : (writ (.str y) LET 8 && !decide (y ∈ ownW)) = true := n
        have h1 : ((decide (1 ≤ (y.length : Int)) && decide ((y.length : Int) ≤ 8)) && allIn LET y) = true := (Bool.and_eq_true_iff.mp h).1
        exact let_low c (of_decide_eq_true (List.all_eq_true.mp (Bool.and_eq_true_iff.mp h1).2 c hc))) (name_len (ok.ks.names y (h y hy)))
    have zK := (zs f.keys (fun _ h => h) (by omega))
    have zT : Sz (.tuple (f.keys.map PyData.str)) 1 240 := zK.tuple
    have zL : Sz (.list (f.keys.map PyData.str)) 1 240 := zK.list
    have zT2 : Sz (.tuple ((f.keys ++ f.keys).map PyData.str)) 1 240 := (zs (f.keys ++ f.keys) (fun y h => (List.mem_append.mp h).elim id id) (by rw [List.length_append]; omega)).tuple
    have zI : ∀ i : Int, i.natAbs ≤ 400 → Sz (.int i) 1 40 := fun i h => (td_int (by omega)).sz.mono (by decide) (Nat.le_refl _)
    have d1 := ok.d1
    have d2 := ok.d2
    have u1 := ok.u1
    have u2 := ok.u2
    have zD := zI (f.days : Int) (by have : ((f.days : Int)).natAbs = f.days := rfl; omega)
    have zU := zI (f.turns : Int) (by have : ((f.turns : Int)).natAbs = f.turns := rfl; omega)
    have z0' := zI 0 (by decide)
    have zB : Sz (.bool true) 1 40 := ⟨by decide +kernel, by decide +kernel, by decide +kernel, by decide +kernel⟩
    have sAll : ∀ ds : List PyData, ds.length ≤ 4 → (∀ d ∈ ds, Sz d 1 240) → SzAll ds 1 1000 := fun ds l h => (szAll_of h).mono (Nat.le_refl _) (by have : (240 + 1) * ds.length ≤ (240 + 1) * 4 := Nat.mul_le_mul_left _ l; omega)
    have g1 : ∀ {d : PyData}, Sz d 1 40 → Sz d 1 240 := fun h => h.mono (Nat.le_refl _) (by decide)
    have tT : ∀ {p : Addr} {xs : List V} {ds : List PyData}, H25 p = some (.tup xs) → DzAll H25 xs ds → ds.length ≤ 4 → (∀ d ∈ ds, Sz d 1 240) → TellD H25 (.ref p) (.tuple ds) := fun w dz l h => ⟨.tup w dz, (sAll _ l h).tuple.mono (by decide) (by decide), rfl⟩
    have dK : ∀ {p : Addr}, H25 p = some (.tup (f.keys.map V.str)) → Dz H25 (.ref p) (.tuple (f.keys.map PyData.str)) := fun w => .tup w (dz_strs _)
    have nK : nbA (f.keys.map PyData.str) = true := nba_of fun d hd => by
      obtain ⟨y, hy, rfl⟩ := List.mem_map.mp hd
      simp only [nbD]
    have nK2 : nbA ((f.keys ++ f.keys).map PyData.str) = true := nba_of fun d hd => by
      obtain ⟨y, hy, rfl⟩ := List.mem_map.mp hd
      simp only [nbD]
    have nL : nbL (f.keys.map PyData.str) = true := nb_str (z := f.keys[0]) (List.mem_map.mpr ⟨_, List.getElem_mem _, rfl⟩)
    have all2 : ∀ {d1 d2 : PyData}, Sz d1 1 240 → Sz d2 1 240 → ∀ d ∈ [d1, d2], Sz d 1 240 := fun h1 h2 d hd => by
      simp only [List.mem_cons, List.not_mem_nil, or_false] at hd
      rcases hd with rfl | rfl
      · exact h1
      · exact h2
    have all3 : ∀ {d1 d2 d3 : PyData}, Sz d1 1 240 → Sz d2 1 240 → Sz d3 1 240 → ∀ d ∈ [d1, d2, d3], Sz d 1 240 := fun h1 h2 h3 d hd => by
      simp only [List.mem_cons, List.not_mem_nil, or_false] at hd
      rcases hd with rfl | rfl | rfl
      · exact h1
      · exact h2
      · exact h3
    have all4 : ∀ {d1 d2 d3 d4 : PyData}, Sz d1 1 240 → Sz d2 1 240 → Sz d3 1 240 → Sz d4 1 240 → ∀ d ∈ [d1, d2, d3, d4], Sz d 1 240 := fun h1 h2 h3 h4 d hd => by
      simp only [List.mem_cons, List.not_mem_nil, or_false] at hd
      rcases hd with rfl | rfl | rfl | rfl
      · exact h1
      · exact h2
      · exact h3
      · exact h4
    have bads : ∀ G : Hp, (∀ a o, H25 a = some o → noBox o = true → G a = some o) → ∀ v ∈ [V.ref l0, .ref p1, .ref p2, .ref p3, .ref p4] ++ [V.ref p5, .non, .str "frame", .ref dd, .ref p9] ++ [V.ref pA, .ref pB], ∃ d, TellD G v d ∧ NoTell K G v := by
      intro G hg v mem
      have tT : ∀ {p : Addr} {xs : List V} {ds : List PyData}, G p = some (.tup xs) → DzAll G xs ds → ds.length ≤ 4 → (∀ d ∈ ds, Sz d 1 240) → TellD G (.ref p) (.tuple ds) := fun w dz l h => ⟨.tup w dz, (sAll _ l h).tuple.mono (by decide) (by decide), rfl⟩
      have dK : ∀ {p : Addr}, G p = some (.tup (f.keys.map V.str)) → Dz G (.ref p) (.tuple (f.keys.map PyData.str)) := fun w => .tup w (dz_strs _)
      have fT0 := hg _ _ fT0 rfl
      have fq0 := hg _ _ fq0 rfl
      have fl0 := hg _ _ fl0 rfl
      have fp1 := hg _ _ fp1 rfl
      have fp2 := hg _ _ fp2 rfl
      have fp3 := hg _ _ fp3 rfl
      have fT4 := hg _ _ fT4 rfl
      have fp4 := hg _ _ fp4 rfl
      have fT5 := hg _ _ fT5 rfl
      have fp5 := hg _ _ fp5 rfl
      have fdd := hg _ _ fdd rfl
      have fT9 := hg _ _ fT9 rfl
      have fp9 := hg _ _ fp9 rfl
      have fTA := hg _ _ fTA rfl
      have fpA := hg _ _ fpA rfl
      have fTC := hg _ _ fTC rfl
      have fpB := hg _ _ fpB rfl
      have fl1 := hg _ _ fl1 noBox_strs
      simp only [List.mem_append, List.mem_cons, List.not_mem_nil, or_false] at mem
      have four : ∀ {ds : List PyData}, ds.all (fun _ => true) = true → True := fun _ => trivial
      have dT0 := dK fT0
      rcases mem with ((rfl | rfl | rfl | rfl | rfl) | (rfl | rfl | rfl | rfl | rfl)) | (rfl | rfl)
      · exact ⟨.list [.tuple (f.keys.map .str), .int (f.days : Int), .int (f.turns : Int)], ⟨.lst fl0 (.cons (dK fT0) (.cons (.int _) (.cons (.int _) .nil))), (sAll _ (Nat.le_of_ble_eq_true rfl) (all3 zT (g1 zD) (g1 zU))).list.mono (by decide) (by decide), rfl⟩, .other (.lst (tyX_l fl0))⟩
      · exact ⟨.tuple [.tuple (f.keys.map .str), .int (f.days : Int)], tT fp1 (.cons (dK fT0) (.cons (.int _) .nil)) (Nat.le_of_ble_eq_true rfl) (all2 zT (g1 zD)), .wrong fp1 (Nat.ne_of_beq_eq_false rfl)⟩
      · exact ⟨.tuple [.tuple (f.keys.map .str), .int (f.days : Int), .int (f.turns : Int), .int 0], tT fp2 (.cons (dK fT0) (.cons (.int _) (.cons (.int _) (.cons (.int _) .nil)))) (Nat.le_of_ble_eq_true rfl) (all4 zT (g1 zD) (g1 zU) (g1 z0')), .wrong fp2 (Nat.ne_of_beq_eq_false rfl)⟩
      · exact ⟨.tuple [.list (f.keys.map .str), .int (f.days : Int), .int (f.turns : Int)], tT fp3 (.cons (.lst fl1 (dz_strs _)) (.cons (.int _) (.cons (.int _) .nil))) (Nat.le_of_ble_eq_true rfl) (all3 zL (g1 zD) (g1 zU)), .first fp3 (.lst (tyX_l fl1))⟩
      · exact ⟨.tuple [.tuple (f.keys.map .str), .int (f.turns : Int)], tT fp4 (.cons (dK fT4) (.cons (.int _) .nil)) (Nat.le_of_ble_eq_true rfl) (all2 zT (g1 zU)), .wrong fp4 (Nat.ne_of_beq_eq_false rfl)⟩
      · exact ⟨.tuple [.int (f.days : Int), .tuple (f.keys.map .str), .int (f.turns : Int)], tT fp5 (.cons (.int _) (.cons (dK fT5) (.cons (.int _) .nil))) (Nat.le_of_ble_eq_true rfl) (all3 (g1 zD) zT (g1 zU)), .first fp5 (.int _)⟩
      · exact ⟨.none, tell_lit .non (by decide +kernel) (by decide +kernel) (by decide +kernel) (by decide +kernel) (by decide +kernel), .other .non⟩
      · exact ⟨.str "frame", tell_lit (.str _) (by decide +kernel) (by decide +kernel) (by decide +kernel) (by decide +kernel) (by decide +kernel), .other (.str _)⟩
      · exact ⟨.dict [], tell_lit (.dct fdd) (by decide +kernel) (by decide +kernel) (by decide +kernel) (by decide +kernel) (by decide +kernel), .other (.dct (tyX_d fdd))⟩
      · exact ⟨.tuple [.tuple (f.keys.map .str), .int 0, .int (f.turns : Int)], tT fp9 (.cons (dK fT9) (.cons (.int _) (.cons (.int _) .nil))) (Nat.le_of_ble_eq_true rfl) (all3 zT (g1 z0') (g1 zU)), .inner fp9 (.tup (tyX_t fT9)) (.days (.good (.inr fT9) ok.ks) (.int _) rfl)⟩
      · exact ⟨.tuple [.tuple (f.keys.map .str), .int (f.days : Int), .bool true], tT fpA (.cons (dK fTA) (.cons (.int _) (.cons (.bl _) .nil))) (Nat.le_of_ble_eq_true rfl) (all3 zT (g1 zD) (g1 zB)), .inner fpA (.tup (tyX_t fTA)) (.turns (.good (.inr fTA) ok.ks) (.int _) (within_400 d1 d2) (.bl _) rfl)⟩
      · have kt : KeysT K G (.ref TC) false := by
          have l2 : (f.keys ++ f.keys).length = f.keys.length + f.keys.length := List.length_append
          by_cases l : f.keys.length + f.keys.length ≤ 12
          · have e0 : (f.keys ++ f.keys)[0]? = some f.keys[0] := by rw [List.getElem?_append_left (by omega)]; exact List.getElem?_eq_getElem (by omega)
            have e1 : (f.keys ++ f.keys)[f.keys.length]? = some f.keys[0] := by rw [List.getElem?_append_right (Nat.le_refl _), Nat.sub_self]; exact List.getElem?_eq_getElem (by omega)
            exact .two (.inr fTC) (by omega) (fun y h => ok.ks.names y ((List.mem_append.mp h).elim id id)) e0 e1 (by omega)
          · exact .len (.inr fTC) (.inr (by rw [List.length_map]; omega))
        exact ⟨.tuple [.tuple ((f.keys ++ f.keys).map .str), .int (f.days : Int), .int (f.turns : Int)], tT fpB (.cons (.tup fTC (dz_strs _)) (.cons (.int _) (.cons (.int _) .nil))) (Nat.le_of_ble_eq_true rfl) (all3 zT2 (g1 zD) (g1 zU)), .inner fpB (.tup (tyX_t fTC)) (.keys kt)⟩
    have go25 : Go [t1, t2] b H H25 := (Go.refl bx tabs).exd y25
    refine ⟨_, rfl, _, rfl, _, rfl, L5, _, rfl, .inl (SqL.of w25), b, 12, rfl, go25.bx, by decide, by decide, fun j H26 j0 j1 k26 => ?_⟩
    obtain ⟨v, hv, mem⟩ := at_mem (xs := [V.ref l0, .ref p1, .ref p2, .ref p3, .ref p4] ++ [V.ref p5, .non, .str "frame", .ref dd, .ref p9] ++ [V.ref pA, .ref pB]) j0 j1
    obtain ⟨d, td26, nt26⟩ := bads H26 (fun a o e nb => k26.get go25.bx e nb) v mem
    have fq26 := k26.get go25.bx fq0 rfl
    have fT26 := k26.get go25.bx fT0 rfl
    have go26 := go25.kept k26
    refine ⟨L5, _, _, _, rfl, rfl, SqL.of (k26.get go25.bx w25 rfl), hv, ?_⟩
    refine gset (by (simp only [List.set_cons_succ, List.set_cons_zero]); rfl) ?_
    refine ⟨_, rfl, 1, v, .int 0, .int 0, rfl, go26.tab, .inr (.inr (.inr ⟨rfl, nt26, fun p H27 n27 hp w27 => ?_⟩))⟩
    have go27 := go26.nws n27
    have td27 := td26.nws n27
    have sN : Sz (.str "none") 0 10 := ⟨by decide +kernel, by decide +kernel, by decide +kernel, by decide +kernel⟩
    have sT : Sz (.tuple [.str "none", d]) 60 200000 := (sz_two sN td26.sz).mono (by decide) (by decide)
    refine ⟨_, .tuple [.str "none", d], rfl, .tup w27 (.cons (.str _) (.cons td27.dz .nil)), rfl, sT, ?_⟩
    refine ⟨_, rfl, by show 2 ≤ sizeLine; decide, fun p28 hp28 => ?_⟩
    generalize hG : upd _ _ _ = H28
    obtain ⟨x28, w28⟩ := obj_of hp28 hG
    clear hG
    refine ⟨_, .tuple [.str "none", d], rfl, .tup w28 (.cons (.str _) (.cons (td27.exd x28).dz .nil)), rfl, sT, ?_⟩
    refine ⟨rfl, ?_⟩
    rw [show (!decide (V.str (PyData.tuple [PyData.str "none", d]).shown = V.str (PyData.tuple [PyData.str "none", d]).shown)) = false from by rw [decide_eq_true rfl]; rfl]
    refine ⟨_, rfl, iteF ?_⟩
    have go28 := go27.exd x28
    have ta : ToldAt H28 q0 f := ⟨T0, (x28 _ _ (n27.tup fq26)), (x28 _ _ (n27.tup fT26))⟩
    refine ⟨_, rfl, 1, .ref q0, .int 0, .int 0, rfl, go28.tab, .inr (.inr (.inl ⟨rfl, q0, f, rfl, ta, ok, fun q p H29 n29 hp29 w29 tq => ?_⟩))⟩
    have go29 := go28.nws n29
    have zF : Sz (.tuple [.tuple (f.keys.map PyData.str), .int (f.days : Int), .int (f.turns : Int)]) 2 1000 := (sAll _ (Nat.le_of_ble_eq_true rfl) (all3 zT (g1 zD) (g1 zU))).tuple
    have tDz : ∀ {G : Hp} {q : Addr}, ToldAt G q f → Dz G (.ref q) (.tuple [.tuple (f.keys.map PyData.str), .int (f.days : Int), .int (f.turns : Int)]) := fun {G q} h => by
      obtain ⟨u, h1, h2⟩ := h
      exact .tup h1 (.cons (.tup h2 (dz_strs _)) (.cons (.int _) (.cons (.int _) .nil)))
    have sO : Sz (.str "told") 0 10 := ⟨by decide +kernel, by decide +kernel, by decide +kernel, by decide +kernel⟩
    have sT2 := (sz_two sO zF).mono (k := _) (l := 60) (U := 200000) (by decide) (by decide)
    have ta29 : ToldAt H29 q0 f := by
      obtain ⟨u, h1, h2⟩ := ta
      exact ⟨u, n29.tup h1, n29.tup h2⟩
    refine ⟨_, _, rfl, .tup w29 (.cons (.str _) (.cons (tDz tq) .nil)), rfl, sT2, ?_⟩
    refine ⟨_, rfl, by show 2 ≤ sizeLine; decide, fun p30 hp30 => ?_⟩
    generalize hG : upd _ _ _ = H30
    obtain ⟨x30, w30⟩ := obj_of hp30 hG
    clear hG
    refine ⟨_, _, rfl, .tup w30 (.cons (.str _) (.cons (tDz (ta29.exd x30)) .nil)), rfl, sT2, ?_⟩
    refine ⟨rfl, ?_⟩
    rw [decide_eq_true rfl]
    exact k _ (go29.exd x30)
end
end LL
namespace LL
open PySem PySem.Spec PyProof.Rows L2
/-! ### a list that is made longer -/
mutual
theorem Dz.uniq {H : Hp} : ∀ (d e : PyData) (v : V), Dz H v d → Dz H v e → d = e
  | _, _, _, .non, g => by cases g; rfl
  | _, _, _, .bl b, g => by cases g; rfl
  | _, _, _, .int i, g => by cases g; rfl
  | _, _, _, .str x, g => by cases g; rfl
  | .list ds, _, _, .lst h t, g => by
    cases g with
    | lst h2 t2 =>
      rw [h] at h2
      cases h2
      rw [DzAll.uniq _ _ _ t t2]
    | tup h2 t2 => rw [h] at h2; cases h2
    | dct h2 => rw [h] at h2; cases h2
    | dct1 h2 => rw [h] at h2; cases h2
  | .tuple ds, _, _, .tup h t, g => by
    cases g with
    | lst h2 t2 => rw [h] at h2; cases h2
    | tup h2 t2 =>
      rw [h] at h2
      cases h2
      rw [DzAll.uniq _ _ _ t t2]
    | dct h2 => rw [h] at h2; cases h2
    | dct1 h2 => rw [h] at h2; cases h2
  | _, _, _, .dct h, g => by
    cases g with
    | lst h2 t2 => rw [h] at h2; cases h2
    | tup h2 t2 => rw [h] at h2; cases h2
    | dct h2 => rfl
    | dct1 h2 => rw [h] at h2; cases h2
  | _, _, _, .dct1 h, g => by
    cases g with
    | lst h2 t2 => rw [h] at h2; cases h2
    | tup h2 t2 => rw [h] at h2; cases h2
    | dct h2 => rw [h] at h2; cases h2
    | dct1 h2 => rfl
theorem DzAll.uniq {H : Hp} : ∀ (ds es : List PyData) (vs : List V), DzAll H vs ds → DzAll H vs es → ds = es
  | _, _, _, .nil, g => by cases g; rfl
  | d :: ds, _, _, .cons h t, g => by
    cases g with
    | cons h2 t2 => rw [Dz.uniq _ _ _ h h2, DzAll.uniq _ _ _ t t2]
end
mutual
theorem Dz.off {H : Hp} {al : Addr} {d0 : PyData} {o : HO} (h0 : Dz H (.ref al) d0) : ∀ (d : PyData) (v : V), d.depth < d0.depth → Dz H v d → Dz (upd H al o) v d
  | _, _, _, .non => .non
  | _, _, _, .bl b => .bl b
  | _, _, _, .int i => .int i
  | _, _, _, .str x => .str x
  | .list ds, .ref a, l, .lst h t => by
    have ne : a ≠ al := fun z => by
      have := Dz.uniq _ _ _ h0 (z ▸ Dz.lst h t)
      rw [this] at l
      omega
    refine .lst (by rw [upd_ne ne]; exact h) (DzAll.off h0 _ _ ?_ t)
    simp only [PyData.depth] at l
    omega
  | .tuple ds, .ref a, l, .tup h t => by
    have ne : a ≠ al := fun z => by
      have := Dz.uniq _ _ _ h0 (z ▸ Dz.tup h t)
      rw [this] at l
      omega
    refine .tup (by rw [upd_ne ne]; exact h) (DzAll.off h0 _ _ ?_ t)
    simp only [PyData.depth] at l
    omega
  | _, .ref a, l, .dct h => by
    have ne : a ≠ al := fun z => by
      have := Dz.uniq _ _ _ h0 (z ▸ Dz.dct h)
      rw [this] at l
      omega
    exact .dct (by rw [upd_ne ne]; exact h)
  | _, .ref a, l, .dct1 h => by
    have ne : a ≠ al := fun z => by
      have := Dz.uniq _ _ _ h0 (z ▸ Dz.dct1 h)
      rw [this] at l
      omega
    exact .dct1 (by rw [upd_ne ne]; exact h)
theorem DzAll.off {H : Hp} {al : Addr} {d0 : PyData} {o : HO} (h0 : Dz H (.ref al) d0) : ∀ (ds : List PyData) (vs : List V), PyData.depthAll ds < d0.depth → DzAll H vs ds → DzAll (upd H al o) vs ds
  | _, _, _, .nil => .nil
  | d :: ds, _, l, .cons h t => by
    simp only [PyData.depthAll] at l
    exact .cons (Dz.off h0 _ _ (by omega) h) (DzAll.off h0 _ _ (by omega) t)
end
theorem szAll_snoc {ds : List PyData} {d : PyData} {k W l U : Nat} (h : SzAll ds k W) (g : Sz d l U) : SzAll (ds ++ [d]) (max k l) (W + (U + 1)) := by
  induction ds generalizing k W with
  | nil => exact (SzAll.cons g szAll_nil).mono (by omega) (by omega)
  | cons e ds ih =>
    obtain ⟨a, b, c, w⟩ := h
    simp only [PyData.showableAll, PyData.leavesShortAll, PyData.depthAll, PyData.weightAll, Bool.and_eq_true] at a b c w
    have r := ih (k := PyData.depthAll ds) (W := PyData.weightAll ds) ⟨a.2, b.2, Nat.le_refl _, Nat.le_refl _⟩
    refine (SzAll.cons (d := e) (k := PyData.depth e) (W := PyData.weight e) ⟨a.1, b.1, Nat.le_refl _, Nat.le_refl _⟩ r).mono ?_ ?_
    · omega
    · omega
theorem sz_more {ds : List PyData} {k W : Nat} (h : Sz (.list ds) k W) : Sz (.list (ds ++ [.str "more"])) (k + 1) (W + 10) := by
  obtain ⟨a, b, c, d⟩ := h
  simp only [PyData.showable, PyData.leavesShort, PyData.depth, PyData.weight] at a b c d
  have s : Sz (.str "more") 0 9 := ⟨by decide +kernel, by decide +kernel, by decide +kernel, by decide +kernel⟩
  exact (szAll_snoc (k := PyData.depthAll ds) (W := PyData.weightAll ds) ⟨a, b, Nat.le_refl _, Nat.le_refl _⟩ s).list.mono (by omega) (by omega)
theorem DzAll.snoc {H : Hp} {xs : List V} {ds : List PyData} {v : V} {d : PyData} (h : DzAll H xs ds) (g : Dz H v d) : DzAll H (xs ++ [v]) (ds ++ [d]) := DzAll.app (.cons g .nil) h
/-- a list as data is made longer -/
theorem more_dz {H : Hp} {al : Addr} {xs : List V} {ds : List PyData} (w : H al = some (.lst xs)) (t : DzAll H xs ds) : Dz (upd H al (.lst (xs ++ [.str "more"]))) (.ref al) (.list (ds ++ [.str "more"])) :=
  .lst upd_same ((DzAll.off (.lst w t) _ _ (by simp only [PyData.depth]; omega) t).snoc (.str _))
theorem ix_two {X : Cx} : IxR X (fun x y H Q => rIxL X.K x y H Q ∨ rIxT X.K x y H Q) := by
  intro va sl pins s σ H x y v u Q I rv ru h e
  rcases h with h | h
  · exact ix_list va sl pins s σ H x y v u Q I rv ru h e
  · exact ix_tup va sl pins s σ H x y v u Q I rv ru h e
end LL
namespace LL
open PySem PySem.Spec PyProof.Rows L2
theorem sqL_nws {Ps : List Addr} {H H' : Hp} {K : PySem.W.Frag} {a : Addr} {xs : List V} (x : Nws Ps H H') (h : SqL K H a xs) : SqL K H' a xs := by
  rcases h with h | h
  · refine .inl ?_
    rcases h with h | ⟨o, h⟩
    · exact .inl (x.keep _ _ (fun q z => by cases z) h)
    · exact .inr ⟨o, x.keep _ _ (fun q z => by cases z) h⟩
  · exact .inr h
theorem Go.all {Ps : List Addr} {b : Addr} {H H1 H2 H' : Hp} (n : Nws Ps H H1) (hb : H1 b = none) (x : Exd H1 H2) (g : Go Ps b H2 H') : Nws Ps H H' :=
  ⟨n.was, g.tab, fun c o nc e => g.old c o nc (ne_of_none (n.old c o nc e) hb) (x _ _ (n.old c o nc e))⟩
/-- the things that are none -/
def selB (l : List (V × Bool)) : List V := (l.filter fun p => !p.2).map (·.1)
theorem dz_some {H : Hp} {al : Addr} {d : PyData} (h : Dz H (.ref al) d) : ∃ o, H al = some o := by
  cases h with
  | lst h _ => exact ⟨_, h⟩
  | tup h _ => exact ⟨_, h⟩
  | dct h => exact ⟨_, h⟩
  | dct1 h => exact ⟨_, h⟩
theorem len_weight : ∀ ds : List PyData, ds.length ≤ PyData.weightAll ds
  | [] => Nat.zero_le _
  | d :: ds => by
    have := len_weight ds
    simp only [PyData.weightAll, List.length_cons]
    omega
theorem dz_strs_inv {H : Hp} {xs : List V} : ∀ {ks : List Str}, DzAll H xs (ks.map PyData.str) → xs = ks.map V.str := by
  intro ks
  induction ks generalizing xs with
  | nil => intro h; cases h; rfl
  | cons k ks ih =>
    intro h
    cases h with
    | cons h t =>
      cases h
      rw [ih t]
      rfl
theorem strs_inj {a b : List Str} (h : a.map V.str = b.map V.str) : a = b := by
  induction a generalizing b with
  | nil => cases b with
    | nil => rfl
    | cons _ _ => cases h
  | cons x a ih =>
    cases b with
    | nil => cases h
    | cons y b =>
      injection h with h1 h2
      injection h1 with h1
      rw [h1, ih h2]
theorem good_keys {K : PySem.W.Frag} {H : Hp} {x : V} {d : PyData} (dk : DrawnK K H x true d) (kt : KeysT K H x true) : ∃ a ks, x = .ref a ∧ StrSq H a ks ∧ KeysOk ks ∧ ks ∈ [[("a" : Str)], ["b", "ab", "a"], ["zz"], ["c", "d", "e", "f", "g", "h", "i", "j", "k", "l", "m", "n"]] := by
  obtain ⟨ks, mem, hd⟩ := dk.gd rfl
  cases kt with
  | @good a ks' sq ok =>
    have e : ks' = ks := by
      have dz := dk.t.dz
      rcases hd with rfl | rfl
      · cases dz with
        | lst h t =>
          rcases sq with s | s
          · rw [h] at s
            injection s with s
            injection s with s
            exact strs_inj (s.symm.trans (dz_strs_inv t))
          · rw [h] at s; cases s
      · cases dz with
        | tup h t =>
          rcases sq with s | s
          · rw [h] at s; cases s
          · rw [h] at s
            injection s with s
            injection s with s
            exact strs_inj (s.symm.trans (dz_strs_inv t))
    subst e
    exact ⟨a, ks', rfl, sq, ok, mem⟩
theorem within_int {y : V} (h : within y 1 400 = true) : ∃ n : Nat, y = .int (n : Int) ∧ 1 ≤ n ∧ n ≤ 400 := by
  cases y with
  | int i =>
    simp only [within, Bool.and_eq_true, decide_eq_true_eq] at h
    exact ⟨i.toNat, congrArg V.int (by omega), by omega, by omega⟩
  | _ => cases h
theorem ixS {K : PySem.W.Frag} {H : Hp} {Q : VK} {a : Addr} {ks : List Str} {z0 : Str} (sq : StrSq H a ks) (h : ks[0]? = some z0) (q : Q (.str z0) H) : rIxL K (.ref a) (.int 0) H Q ∨ rIxT K (.ref a) (.int 0) H Q := by
  have at0 : atI (ks.map V.str) 0 = some (.str z0) := atI_nat (j := 0) (by rw [List.getElem?_map, h]; rfl)
  rcases sq with s | s
  · exact .inl ⟨a, _, 0, _, rfl, rfl, SqL.of s, at0, q⟩
  · exact .inr ⟨a, _, 0, _, rfl, rfl, SqT.of s, at0, q⟩
def chkF : List Str → Bool
  | z0 :: zs => [z0, Txt.upper z0, z0 ++ "q", "none", ""].all (fun s => s.cps.toList.all (fun c => decide (c < 1114112)) && decide (s.length ≤ 100)) && [Txt.upper z0, z0 ++ "q", "none", ""].all (fun s => !isKeyV (z0 :: zs) (.str s))
  | [] => false
theorem four_facts {ks : List Str} (h : ks ∈ [[("a" : Str)], ["b", "ab", "a"], ["zz"], ["c", "d", "e", "f", "g", "h", "i", "j", "k", "l", "m", "n"]]) : ∃ z0, ks[0]? = some z0 ∧ (∀ s ∈ [z0, Txt.upper z0, z0 ++ "q", "none", ""], (∀ c ∈ s.cps.toList, c < 1114112) ∧ s.length ≤ 100) ∧ ∀ s ∈ [Txt.upper z0, z0 ++ "q", "none", ""], isKeyV ks (.str s) = false := by
  have all : ∀ ks ∈ [[("a" : Str)], ["b", "ab", "a"], ["zz"], ["c", "d", "e", "f", "g", "h", "i", "j", "k", "l", "m", "n"]], chkF ks = true := by decide +kernel
  have c := all ks h
  cases ks with
  | nil => cases c
  | cons z0 zs =>
    obtain ⟨c1, c2⟩ := Bool.and_eq_true_iff.mp c
    refine ⟨z0, rfl, fun s hs => ?_, fun s hs => ?_⟩
    · obtain ⟨d1, d2⟩ := Bool.and_eq_true_iff.mp (List.all_eq_true.mp c1 s hs)
      exact ⟨fun c hc => of_decide_eq_true (List.all_eq_true.mp d1 c hc), of_decide_eq_true d2⟩
    · simpa using List.all_eq_true.mp c2 s hs
theorem sel_step {l : List (V × Bool)} {j : Nat} {v : V} {g : Bool} (h : l[j]? = some (v, g)) : selB (l.take (j + 1)) = selB (l.take j) ++ (if g = true then [] else [v]) := by
  unfold selB
  rw [List.take_add_one, h, List.filter_append, List.map_append]
  cases g <;> rfl
theorem sel_len (l : List (V × Bool)) : (selB l).length ≤ l.length := by
  unfold selB
  rw [List.length_map]
  exact List.length_filter_le _ _
theorem tri {x y z : V} {g gy gz : Bool} {q1 q2 q3 : Addr} {H : Hp} {j : Nat} {v : V} (hv : [V.ref q1, .ref q2, .ref q3][j]? = some v) (h1 : H q1 = some (.tup [x, .bl g])) (h2 : H q2 = some (.tup [y, .bl gy])) (h3 : H q3 = some (.tup [z, .bl gz])) :
    ∃ q vj gj, v = .ref q ∧ H q = some (.tup [vj, .bl gj]) ∧ ([(x, g), (y, gy), (z, gz)] : List (V × Bool))[j]? = some (vj, gj) := by
  match j, hv with
  | 0, hv => cases hv; exact ⟨_, _, _, rfl, h1, rfl⟩
  | 1, hv => cases hv; exact ⟨_, _, _, rfl, h2, rfl⟩
  | 2, hv => cases hv; exact ⟨_, _, _, rfl, h3, rfl⟩
section
variable {P : Program} {w : World} {K : PySem.W.Frag} {mg : Str → Option Value} {base : Heap} {t1 t2 : Addr}
def spLaw (K : PySem.W.Frag) (t1 t2 : Addr) : Sp := fun vs H Q _ => ∃ (a : Addr) (ns : List Int), vs = [.ref a] ∧ SqL K H a (ns.map V.int) ∧ ns.length ≤ 63 ∧ (∀ R ∈ [t1, t2], GxR.TabG H R) ∧ ∀ H', Q (.bl true) H'
theorem ok_law (D : Defs K mg) (T : Tx K mg) (B : Cd D base t1 t2) : FnG P w K mg base 14 D.law.f D.law.fd ["_law_script"] (spLaw K t1 t2) := by
  have G_law_box := ok__law_box (P := P) (w := w) (base := base) D T
  have G_law_cell_at := ok__law_cell_at (P := P) (w := w) (base := base) D T
  have G_law_keys := ok__law_keys (P := P) (w := w) (base := base) D T
  have G_law_count := ok__law_count (P := P) (w := w) (base := base) D T
  have G_law_tried := ok__law_tried (P := P) (w := w) (base := base) D T B
  have G_law_told_right := ok__law_told_right (P := P) (w := w) (base := base) D T B
  have G_law_key_refused := ok__law_key_refused (P := P) (w := w) (base := base) D T B
  have GFrame___init__ := ok_Frame___init__ (P := P) (w := w) (base := base) D T B
  refine fnG_of D.law.F sclaw (fun vs H Q E h => ?_) (fun cdv A outer s H vs Q E guard hr h => ?_)
  · obtain ⟨a, ns, rfl, _⟩ := h
    rfl
  · obtain ⟨a, ns, rfl, hS, len, tabs, k⟩ := h
    refine ⟨_, (pss_cons (ps_for PassesOwn.never rfl (pi_range1 rfl T.b_range (pa_cons (pe_callB (call_max2 rfl) (by rfl) T.b_max (by decide +kernel) (pa_cons pe_int (pa_cons (pe_callB (call_min2 rfl) (by rfl) T.b_min (by decide +kernel) (pa_cons (pe_callB call_len_seq (by rfl) T.b_len (by decide +kernel) (pa_cons (pv 0) pa_nil)) (pa_cons pe_int pa_nil))) pa_nil))) pa_nil)) (pg_name (i := 1) sclaw.nd rfl (Or.inl rfl)) (pss_cons (ps_set (i := 2) sclaw.nd rfl (Or.inl rfl) (pcall D._law_box G_law_box hr (by decide) (by rfl) (pa_cons (pcall D._law_cell_at G_law_cell_at hr (by decide) (by rfl) (pa_cons (pv 0) (pa_cons (pv 1) pa_nil))) pa_nil)))
        (pss_cons (ps_set (i := 3) sclaw.nd rfl (Or.inl rfl) (pe_lst (pa_cons (pcall D._law_keys G_law_keys hr (by decide) (by rfl) (pa_cons (pv 2) pa_nil)) (pa_cons (pcall D._law_count G_law_count hr (by decide) (by rfl) (pa_cons (pv 2) pa_nil)) (pa_cons (pcall D._law_count G_law_count hr (by decide) (by rfl) (pa_cons (pv 2) pa_nil)) pa_nil)))))
        (pss_cons (ps_setLc (i := 4) (own := [("_law_thing", 5), ("_law_good", 6)]) rfl sclaw.nd rfl rfl (sw_true rfl rfl rfl (by decide +kernel)) (pi_list (pv 3)) (blkOk_by (N := sclaw_N) (sc := defScope sclaw_st) (by decide +kernel)) (fun _ _ _ _ _ => (pg_tupK (K := K) (n := 2) rfl rfl (pgs_cons (pg_name (i := 5) sclaw.nd rfl (Or.inl rfl)) (pgs_cons (pg_name (i := 6) sclaw.nd rfl (Or.inl rfl)) pgs_nil)))) (fun _ _ _ _ _ => pts_one (pt_not (pt_val (pv 6)))) (fun _ _ _ _ _ => (pv 5)))
        (pss_cons (ps_asg (pe_lc (own := [("_law_thing", 5), ("_law_good", 6)]) (tt := tYes) rfl sclaw.nd (pi_list (pv 3)) (blkOk_by (N := sclaw_N) (sc := defScope sclaw_st) (by decide +kernel)) (fun _ _ _ _ _ => (pg_tupK (K := K) (n := 2) rfl rfl (pgs_cons (pg_name (i := 5) sclaw.nd rfl (Or.inl rfl)) (pgs_cons (pg_name (i := 6) sclaw.nd rfl (Or.inl rfl)) pgs_nil)))) (fun _ _ _ _ _ => pts_nil) (fun _ _ _ _ _ => (pv 5))) (pg_unl rfl (pgs_cons (pg_name (i := 7) sclaw.nd rfl (Or.inl rfl)) (pgs_cons (pg_name (i := 8) sclaw.nd rfl (Or.inl rfl)) (pgs_cons (pg_name (i := 9) sclaw.nd rfl (Or.inl rfl)) pgs_nil)))))
        (pss_cons (ps_set (i := 10) sclaw.nd rfl (Or.inl rfl) (pe_callB (call_reprA guard hr) (by rfl) T.b_repr (by decide +kernel) (pa_cons (pv 7) pa_nil)))
        (pss_cons (ps_set (i := 11) sclaw.nd rfl (Or.inl rfl) (pcallG D._law_tried G_law_tried guard hr (by decide) (by rfl) (pa_cons pe_int (pa_cons (pv 7) (pa_cons (pv 8) (pa_cons (pv 9) pa_nil))))))
        (pss_cons (ps_if (pt_cmpR op_ne (pe_callB (call_reprA guard hr) (by rfl) T.b_repr (by decide +kernel) (pa_cons (pv 7) pa_nil)) (pv 10) (nomark _)) (pss_one (ps_ret pe_bl)) pss_nil)
        (pss_one (ps_if (pt_cmpR (op_neE hr.units) (pv 4) (pe_lst pa_nil) (nomark _)) (pss_cons (ps_if (pt_cmpR op_ne (pe_callB (call_reprA guard hr) (by rfl) T.b_repr (by decide +kernel) (pa_cons (pv 11) pa_nil)) (pe_callB (call_reprA guard hr) (by rfl) T.b_repr (by decide +kernel) (pa_cons (pe_tup (pa_cons pe_str (pa_cons (pe_ix ix_list (pv 4) pe_int (fun _ _ => rfl)) pa_nil))) pa_nil)) (nomark _)) (pss_one (ps_ret pe_bl)) pss_nil)
        (pss_one (ps_if (pt_val (pe_callB call_is_list (by rfl) T.b_isinstance (by decide +kernel) (pa_cons (pe_ix ix_list (pv 4) pe_int (fun _ _ => rfl)) (pa_cons (pe_bltn (v := .ty "list") (u := .type "list") (by rfl) T.b_list (by decide +kernel) rfl) pa_nil)))) (pss_cons (ps_expr (pe_bm PySem.F.plainAttrs_list PySem.F.slot_list_append PySem.F.type_list_append mt_append (pe_ix ix_list (pv 4) pe_int (fun _ _ => rfl)) (pa_cons pe_str pa_nil)))
        (pss_one (ps_if (pt_cmpR op_ne (pe_callB (call_reprA guard hr) (by rfl) T.b_repr (by decide +kernel) (pa_cons (pv 11) pa_nil)) (pe_callB (call_reprA guard hr) (by rfl) T.b_repr (by decide +kernel) (pa_cons (pe_tup (pa_cons pe_str (pa_cons (pe_ix ix_list (pv 4) pe_int (fun _ _ => rfl)) pa_nil))) pa_nil)) (nomark _)) (pss_one (ps_ret pe_bl)) pss_nil))) pss_nil))) (pss_cons (ps_if (PW.pt (pw_or (pt_cmpR op_ne (pe_callB (call_reprA guard hr) (by rfl) T.b_repr (by decide +kernel) (pa_cons (pv 11) pa_nil)) (pe_callB (call_reprA guard hr) (by rfl) T.b_repr (by decide +kernel) (pa_cons (pe_tup (pa_cons pe_str (pa_cons (pe_tup (pa_cons (pe_callTy call_tupS (by rfl) T.b_tuple (by decide +kernel) (pa_cons (pv 7) pa_nil)) (pa_cons (pv 8) (pa_cons (pv 9) pa_nil)))) pa_nil))) pa_nil)) (nomark _)) (pw_or1 (pt_not (pt_val (pcallG D._law_told_right G_law_told_right guard hr (by decide) (by rfl) (pa_cons (pv 2) (pa_cons (pv 7) (pa_cons (pv 8) (pa_cons (pv 9) pa_nil)))))))))) (pss_one (ps_ret pe_bl)) pss_nil)
        (pss_cons (ps_set (i := 12) sclaw.nd rfl (Or.inl rfl) (pmakeG D.mkFrame D.Frame___init__.b GFrame___init__ hr (by decide) (by rfl) D.g_Frame (pa_cons (pv 7) (pa_cons (pv 8) (pa_cons (pv 9) pa_nil)))))
        (pss_one (ps_for PassesOwn.never rfl (pi_list (pe_lst (pa_cons pe_non (pa_cons pe_int (pa_cons pe_str (pa_cons pe_str (pa_cons (pe_upper (pe_ix ix_two (pv 7) pe_int (fun _ _ => rfl))) (pa_cons (pe_lst (pa_cons (pe_ix ix_two (pv 7) pe_int (fun _ _ => rfl)) pa_nil)) (pa_cons pe_bl (pa_cons (pe_op op_add_str (pe_ix ix_two (pv 7) pe_int (fun _ _ => rfl)) pe_str) (pa_cons (pe_tup (pa_cons (pe_ix ix_two (pv 7) pe_int (fun _ _ => rfl)) pa_nil)) pa_nil))))))))))) (pg_name (i := 5) sclaw.nd rfl (Or.inl rfl)) (pss_one (ps_if (pt_not (pt_val (pcallG D._law_key_refused G_law_key_refused guard hr (by decide) (by rfl) (pa_cons (pv 12) (pa_cons (pv 5) pa_nil))))) (pss_one (ps_ret pe_bl)) pss_nil))))))))))))))))
        (pss_one (ps_ret pe_bl))), ?_⟩
    have hst : L2.start sclaw_N [V.ref a] = some (.ref a) :: List.replicate 12 none := rfl
    rw [hst]
    try dsimp only [List.replicate]
    refine ⟨_, rfl, a, _, rfl, .inl hS, _, _, rfl, _, _, rfl, _, rfl, ?_, ?_, for_range (lo := 0) (fun i σ H1 => (∃ v1 v2 v3 v4 v5 v6 v7 v8 v9 v10 v11 v12, σ = [some (.ref a), v1, v2, v3, v4, v5, v6, v7, v8, v9, v10, v11, v12]) ∧ Nws [t1, t2] H H1)
      ⟨⟨_, _, _, _, _, _, _, _, _, _, _, _, rfl⟩, Nws.refl tabs⟩ ?_ ?_⟩
    · rw [List.length_map]
      split <;> split <;> omega
    · rw [List.length_map]
      split <;> split <;> omega
    · rintro i0 σ H1 hi ⟨⟨v1, v2, v3, v4, v5, v6, v7, v8, v9, v10, v11, v12, rfl⟩, n1⟩
      refine gset (by (simp only [List.set_cons_succ, List.set_cons_zero]); rfl) ?_
      refine ⟨_, rfl, _, rfl, a, i0, ns, congrArg (fun y : Int => [V.ref a, V.int y]) (Int.zero_add _), sqL_nws n1 hS, fun cell => ⟨cell, rfl, fun b o hb Bo => ?_⟩⟩
      generalize hG : upd _ _ _ = H2
      obtain ⟨x2, w2⟩ := obj_of hb hG
      clear hG
      have b2 : Bx H2 b := ⟨o, w2, Bo⟩
      refine gset (by (simp only [List.set_cons_succ, List.set_cons_zero]); rfl) ?_
      have back : ∀ H', Go [t1, t2] b H2 H' → Nws [t1, t2] H H' := fun H' g => Go.all n1 hb x2 g
      refine ⟨_, rfl, b, rfl, b2, fun q1 x g d H3 k3 w3 dk fx => ?_⟩
      refine ⟨_, rfl, b, rfl, k3.bx, fun q2 y gy dy H4 k4 w4 ty wy ny fy => ?_⟩
      refine ⟨_, rfl, b, rfl, k4.bx, fun q3 z gz dz H5 k5 w5 tz wz nz fz => ?_⟩
      refine ⟨by show 3 ≤ sizeLine; decide, fun L hL => ?_⟩
      generalize hG : upd _ _ _ = H6
      obtain ⟨x6, w6⟩ := obj_of hL hG
      clear hG
      refine gset (by (simp only [List.set_cons_succ, List.set_cons_zero]); rfl) ?_
      have w36 := x6 _ _ (k5.get k4.bx (k4.get k3.bx w3 rfl) rfl)
      have w46 := x6 _ _ (k5.get k4.bx w4 rfl)
      have w56 := x6 _ _ w5
      have dk6 := (((dk.kb k4 k3.bx).kb k5 k4.bx).exd x6)
      have ty6 : TellD H6 y dy := (⟨ty.dz.kb k5 k4.bx _ _ ny, ty.sz, ty.io⟩ : TellD H5 y dy).exd x6
      have tz6 := tz.exd x6
      have g0 : Go [t1, t2] b H2 H2 := Go.refl b2 (n1.nws_exd x2).tab
      have g6 : Go [t1, t2] b H2 H6 := (((g0.kept k3).kept k4).kept k5).exd x6
      -- which are none
      refine ⟨_, rfl, L, rfl, ⟨_, SqL.of w6⟩, fun Db hDb => ?_⟩
      refine lc_list (K := K) (a := L) (xs := [V.ref q1, .ref q2, .ref q3]) (fun j H' => Exd H6 H' ∧ H' Db = some (.lst (selB ([(x, g), (y, gy), (z, gz)].take j)))) ⟨(Exd.refl H6).new hDb, upd_same⟩ (fun j H' _ q => SqL.of (q.1 _ _ w6)) ?_ ?_
      · rintro j v H7 hv ⟨x7, w7⟩
        obtain ⟨q, vj, gj, rfl, wq, hj⟩ : ∃ q vj gj, v = .ref q ∧ H6 q = some (.tup [vj, .bl gj]) ∧ ([(x, g), (y, gy), (z, gz)] : List (V × Bool))[j]? = some (vj, gj) := tri hv w36 w46 w56
        have j3 := (List.getElem?_eq_some_iff.mp hv).1
        have st := sel_step hj
        refine ⟨q, _, rfl, SqT.of (x7 _ _ wq), rfl, _, _, rfl, _, _, rfl, rfl, ?_⟩
        refine ⟨rfl, _, rfl, gj, rfl, ?_⟩
        cases gj with
        | true =>
          refine iteF ?_
          exact ⟨x7, by rw [w7, st]; simp⟩
        | false =>
          refine iteT ?_
          refine ⟨_, rfl, _, w7, ?_, xd_put x7 hDb, ?_⟩
          · have := sel_len (([(x, g), (y, gy), (z, gz)] : List (V × Bool)).take j)
            rw [List.length_take] at this
            have := PySem.sizeLine_eq
            simp only [List.length_cons, List.length_nil] at *
            omega
          · rw [upd_same, st]
            rfl
      rintro H7 ⟨x7, w7⟩
      refine gset (by (simp only [List.set_cons_succ, List.set_cons_zero]); rfl) ?_
      refine ⟨_, rfl, L, rfl, ⟨_, SqL.of (x7 _ _ w6)⟩, fun Da hDa => ?_⟩
      refine lc_list (K := K) (a := L) (xs := [V.ref q1, .ref q2, .ref q3]) (fun j H' => Exd H7 H' ∧ H' Da = some (.lst ((([(x, g), (y, gy), (z, gz)] : List (V × Bool)).take j).map (·.1)))) ⟨(Exd.refl H7).new hDa, upd_same⟩ (fun j H' _ q => SqL.of (q.1 _ _ (x7 _ _ w6))) ?_ ?_
      · rintro j v H8 hv ⟨x8, w8⟩
        obtain ⟨q, vj, gj, rfl, wq, hj⟩ : ∃ q vj gj, v = .ref q ∧ H6 q = some (.tup [vj, .bl gj]) ∧ ([(x, g), (y, gy), (z, gz)] : List (V × Bool))[j]? = some (vj, gj) := tri hv w36 w46 w56
        have j3 := (List.getElem?_eq_some_iff.mp hv).1
        refine ⟨q, _, rfl, SqT.of ((x7.trans x8) _ _ wq), rfl, _, _, rfl, _, _, rfl, rfl, ?_⟩
        refine ⟨rfl, _, rfl, _, w8, ?_, xd_put x8 hDa, ?_⟩
        · rw [List.length_map, List.length_take]
          have := PySem.sizeLine_eq
          simp only [List.length_cons, List.length_nil] at *
          omega
        · rw [upd_same, List.take_add_one, hj, List.map_append]
          rfl
      rintro H8 ⟨x8, w8⟩
      refine ⟨Da, _, rfl, SqL.of w8, rfl, _, _, rfl, _, _, rfl, _, _, rfl, rfl, ?_⟩
      have x68 := x7.trans x8
      have dk8 := dk6.exd x68
      have ty8 := ty6.exd x68
      have tz8 := tz6.exd x68
      have g8 := g6.exd x68
      have kt : KeysT K H8 x g := by
        have := dk8.t.dz.keysT (K := K) dk8.sh
        rw [dk8.k] at this
        exact this
      have cases3 : (∃ v dv rest, selB [(x, g), (y, gy), (z, gz)] = v :: rest ∧ FirstBad K H8 x y z v ∧ TellD H8 v dv ∧ (∀ al, v = .ref al → H2 al = none) ∧ (∀ al, v = .ref al → Db ≠ al)) ∨ (selB [(x, g), (y, gy), (z, gz)] = [] ∧ g = true ∧ gy = true ∧ gz = true) := by
        have off : ∀ {v : V} {dv : PyData}, Dz H6 v dv → ∀ al, v = .ref al → Db ≠ al := fun h al e z => by
          obtain ⟨o, ho⟩ := dz_some (e ▸ h)
          rw [← z, hDb] at ho
          cases ho
        have f4 : ∀ al, y = .ref al → H2 al = none := fun al e => k3.free (fy al e)
        have f5 : ∀ al, z = .ref al → H2 al = none := fun al e => k3.free (k4.free (fz al e))
        cases g with
        | false => exact .inl ⟨x, d, _, rfl, .keys kt, dk8.t, fx, off dk6.t.dz⟩
        | true =>
          cases gy with
          | false => exact .inl ⟨y, dy, _, rfl, .days kt ty8.dz.thing wy, ty8, f4, off ty6.dz⟩
          | true =>
            cases gz with
            | false => exact .inl ⟨z, dz, _, rfl, .turns kt ty8.dz.thing wy tz8.dz.thing wz, tz8, f5, off tz6.dz⟩
            | true => exact .inr ⟨rfl, rfl, rfl, rfl⟩
      have w7' : H8 Db = some (.lst (selB [(x, g), (y, gy), (z, gz)])) := x8 _ _ w7
      -- repr of the keys
      have sx : Sz d 60 200000 := dk8.t.sz.mono (by decide) (by decide)
      refine ⟨_, rfl, x, d, rfl, dk8.t.dz, dk8.t.io, sx, ?_⟩
      refine gset (by (simp only [List.set_cons_succ, List.set_cons_zero]); rfl) ?_
      rcases cases3 with ⟨v, dv, rest, es, fb, tv, fv, fo⟩ | ⟨es, rfl, rfl, rfl⟩
      · rw [es] at w7'
        refine ⟨_, rfl, _, rfl, _, rfl, 0, x, y, z, rfl, g8.tab, .inr (.inl ⟨rfl, v, fb, fun p H9 n9 hp w9 => ?_⟩)⟩
        refine gset (by (simp only [List.set_cons_succ, List.set_cons_zero]); rfl) ?_
        have g9 := g8.nws n9
        have tv9 := tv.nws n9
        refine ⟨_, rfl, x, d, rfl, dk8.t.dz.keep n9.keep, dk8.t.io, sx, ?_⟩
        refine ⟨_, rfl, rfl, ?_⟩
        rw [show (!decide (V.str d.shown = V.str d.shown)) = false from by rw [decide_eq_true rfl]; rfl]
        refine ⟨_, rfl, iteF ?_⟩
        refine ⟨_, rfl, by show 0 ≤ sizeLine; decide, fun pe hpe => ?_⟩
        generalize hG : upd _ _ _ = H10
        obtain ⟨x10, w10⟩ := obj_of hpe hG
        clear hG
        have w10b := x10 _ _ (n9.get w7' (fun q z => by cases z))
        refine ⟨Db, pe, _, rfl, rfl, w10b, w10, ?_⟩
        refine ⟨_, rfl, iteT ?_⟩
        have sN : Sz (.str "none") 0 10 := ⟨by decide +kernel, by decide +kernel, by decide +kernel, by decide +kernel⟩
        have sT : Sz (.tuple [.str "none", dv]) 60 200000 := (sz_two sN tv.sz).mono (by decide) (by decide)
        have tv10 := tv9.exd x10
        have w10p := x10 _ _ w9
        refine ⟨_, rfl, _, .tuple [.str "none", dv], rfl, .tup w10p (.cons (.str _) (.cons tv10.dz .nil)), rfl, sT, ?_⟩
        refine ⟨_, rfl, Db, _, _, _, rfl, rfl, SqL.of w10b, atI_nat (j := 0) rfl, by show 2 ≤ sizeLine; decide, fun p2 hp2 => ?_⟩
        generalize hG : upd _ _ _ = H11
        obtain ⟨x11, w11⟩ := obj_of hp2 hG
        clear hG
        have tv11 := tv10.exd x11
        refine ⟨_, .tuple [.str "none", dv], rfl, .tup w11 (.cons (.str _) (.cons tv11.dz .nil)), rfl, sT, ?_⟩
        refine ⟨rfl, ?_⟩
        rw [show (!decide (V.str (PyData.tuple [PyData.str "none", dv]).shown = V.str (PyData.tuple [PyData.str "none", dv]).shown)) = false from by rw [decide_eq_true rfl]; rfl]
        refine ⟨_, rfl, iteF ?_⟩
        have w11b := x11 _ _ w10b
        have w11p := x11 _ _ w10p
        have g11 := (g9.exd x10).exd x11
        have dzl := tv11.dz
        have szl := tv11.sz
        cases dzl with
        | @lst al xs ds hal dza =>
          refine ⟨_, rfl, Db, _, _, _, rfl, rfl, SqL.of w11b, atI_nat (j := 0) rfl, _, _, rfl, .lst (tyX_l hal), _, rfl, iteT ?_⟩
          have alp : ∀ {r : Addr} {o : HO}, H11 r = some o → o ≠ .lst xs → upd H11 al (.lst (xs ++ [.str "more"])) r = some o := fun {r o} e n => by
            rw [upd_ne (fun z => by rw [z, hal] at e; cases e; exact n rfl)]
            exact e
          refine ⟨_, rfl, Db, _, _, _, rfl, rfl, SqL.of w11b, atI_nat (j := 0) rfl, .inl ⟨rfl, _, SqL.of hal⟩, al, xs, _, rfl, rfl, hal, ?_, ?_⟩
          · rw [dza.len]
            have l1 := len_weight ds
            have l2 := szl.wt
            simp only [PyData.weight] at l2
            have := PySem.sizeLine_eq
            omega
          have gA := g11.put (u := .lst (xs ++ [V.str "more"])) (fv al rfl) hal (fun q z => by cases z)
          have wAb : upd H11 al (.lst (xs ++ [V.str "more"])) Db = some (.lst (.ref al :: rest)) := by
            rw [upd_ne (fo al rfl)]
            exact w11b
          have wAp : upd H11 al (.lst (xs ++ [V.str "more"])) p = some (.tup [.str "none", .ref al]) := alp w11p (fun z => by cases z)
          have dzA := more_dz hal dza
          generalize upd H11 al (.lst (xs ++ [V.str "more"])) = HA at gA wAb wAp dzA ⊢
          have szA : Sz (.tuple [.str "none", .list (ds ++ [.str "more"])]) 60 200000 := (sz_two sN (sz_more szl)).mono (by decide) (by decide)
          refine ⟨_, rfl, _, .tuple [.str "none", .list (ds ++ [.str "more"])], rfl, .tup wAp (.cons (.str _) (.cons dzA .nil)), rfl, szA, ?_⟩
          refine ⟨_, rfl, Db, _, _, _, rfl, rfl, SqL.of wAb, atI_nat (j := 0) rfl, by show 2 ≤ sizeLine; decide, fun p3 hp3 => ?_⟩
          generalize hG : upd _ _ _ = HB
          obtain ⟨xB, wB⟩ := obj_of hp3 hG
          clear hG
          refine ⟨_, .tuple [.str "none", .list (ds ++ [.str "more"])], rfl, .tup wB (.cons (.str _) (.cons (dzA.keep fun b o _ z => xB b o z) .nil)), rfl, szA, ?_⟩
          refine ⟨rfl, ?_⟩
          rw [show (!decide (V.str (PyData.tuple [PyData.str "none", PyData.list (ds ++ [PyData.str "more"])]).shown = V.str (PyData.tuple [PyData.str "none", PyData.list (ds ++ [PyData.str "more"])]).shown)) = false from by rw [decide_eq_true rfl]; rfl]
          refine ⟨_, rfl, iteF ?_⟩
          exact ⟨⟨_, _, _, _, _, _, _, _, _, _, _, _, rfl⟩, back _ (gA.exd xB)⟩
        | non =>
          refine ⟨_, rfl, Db, _, _, _, rfl, rfl, SqL.of w11b, atI_nat (j := 0) rfl, _, _, rfl, .non, _, rfl, iteF ?_⟩
          exact ⟨⟨_, _, _, _, _, _, _, _, _, _, _, _, rfl⟩, back _ g11⟩
        | bl b0 =>
          refine ⟨_, rfl, Db, _, _, _, rfl, rfl, SqL.of w11b, atI_nat (j := 0) rfl, _, _, rfl, .bl _, _, rfl, iteF ?_⟩
          exact ⟨⟨_, _, _, _, _, _, _, _, _, _, _, _, rfl⟩, back _ g11⟩
        | int i1 =>
          refine ⟨_, rfl, Db, _, _, _, rfl, rfl, SqL.of w11b, atI_nat (j := 0) rfl, _, _, rfl, .int _, _, rfl, iteF ?_⟩
          exact ⟨⟨_, _, _, _, _, _, _, _, _, _, _, _, rfl⟩, back _ g11⟩
        | str z1 =>
          refine ⟨_, rfl, Db, _, _, _, rfl, rfl, SqL.of w11b, atI_nat (j := 0) rfl, _, _, rfl, .str _, _, rfl, iteF ?_⟩
          exact ⟨⟨_, _, _, _, _, _, _, _, _, _, _, _, rfl⟩, back _ g11⟩
        | tup ht _ =>
          refine ⟨_, rfl, Db, _, _, _, rfl, rfl, SqL.of w11b, atI_nat (j := 0) rfl, _, _, rfl, .tup (tyX_t ht), _, rfl, iteF ?_⟩
          exact ⟨⟨_, _, _, _, _, _, _, _, _, _, _, _, rfl⟩, back _ g11⟩
        | dct ht =>
          refine ⟨_, rfl, Db, _, _, _, rfl, rfl, SqL.of w11b, atI_nat (j := 0) rfl, _, _, rfl, .dct (tyX_d ht), _, rfl, iteF ?_⟩
          exact ⟨⟨_, _, _, _, _, _, _, _, _, _, _, _, rfl⟩, back _ g11⟩
        | dct1 ht =>
          refine ⟨_, rfl, Db, _, _, _, rfl, rfl, SqL.of w11b, atI_nat (j := 0) rfl, _, _, rfl, .dct (tyX_d ht), _, rfl, iteF ?_⟩
          exact ⟨⟨_, _, _, _, _, _, _, _, _, _, _, _, rfl⟩, back _ g11⟩
      · rw [es] at w7'
        obtain ⟨ax, ks, rfl, sq, okk, four⟩ := good_keys dk8 kt
        obtain ⟨dn, rfl, dn1, dn2⟩ := within_int wy
        obtain ⟨un, rfl, un1, un2⟩ := within_int wz
        obtain ⟨f, hf1, hf2, hf3⟩ : ∃ f : Fr, f.keys = ks ∧ f.days = dn ∧ f.turns = un := ⟨⟨ks, dn, un⟩, rfl, rfl, rfl⟩
        have ok : FrOk f := ⟨by rw [hf1]; exact okk, by omega, by omega, by omega, by omega⟩
        subst hf1 hf2 hf3
        refine ⟨_, rfl, _, rfl, _, rfl, 0, .ref ax, .int (f.days : Int), .int (f.turns : Int), rfl, g8.tab, .inl ⟨rfl, ax, f, rfl, rfl, rfl, sq, ok, fun q p H9 n9 hp w9 tq => ?_⟩⟩
        refine gset (by (simp only [List.set_cons_succ, List.set_cons_zero]); rfl) ?_
        have g9 := g8.nws n9
        have sq9 := sq.nws n9
        refine ⟨_, rfl, .ref ax, d, rfl, dk8.t.dz.keep n9.keep, dk8.t.io, sx, ?_⟩
        refine ⟨_, rfl, rfl, ?_⟩
        rw [show (!decide (V.str d.shown = V.str d.shown)) = false from by rw [decide_eq_true rfl]; rfl]
        refine ⟨_, rfl, iteF ?_⟩
        refine ⟨_, rfl, by show 0 ≤ sizeLine; decide, fun pe hpe => ?_⟩
        generalize hG : upd _ _ _ = H10
        obtain ⟨x10, w10⟩ := obj_of hpe hG
        clear hG
        refine ⟨Db, pe, _, rfl, rfl, x10 _ _ (n9.get w7' (fun q z => by cases z)), w10, ?_⟩
        refine ⟨_, rfl, iteF ?_⟩
        have kz : SzAll (f.keys.map PyData.str) 0 240 := by
          refine (szAll_of (k := 0) (W := 8) fun e he => ?_).mono (Nat.le_refl _) (by rw [List.length_map]; have := okk.most; omega)
          obtain ⟨u, hu, rfl⟩ := List.mem_map.mp he
          exact str_sz (fun c hc => by
            have n := okk.names u hu
            have h : (writ (.str u) LET 8 && !decide (u ∈ ownW)) = true := n
            have h1 : ((decide (1 ≤ (u.length : Int)) && decide ((u.length : Int) ≤ 8)) && allIn LET u) = true := (Bool.and_eq_true_iff.mp h).1
            exact let_low c (of_decide_eq_true (List.all_eq_true.mp (Bool.and_eq_true_iff.mp h1).2 c hc))) (name_len (okk.names u hu))
        have zI : ∀ i : Nat, i ≤ 400 → Sz (.int (i : Int)) 1 240 := fun i h => (td_int (by have : ((i : Int)).natAbs = i := rfl; omega)).sz.mono (by decide) (by decide)
        have zF : Sz (.tuple [.tuple (f.keys.map PyData.str), .int (f.days : Int), .int (f.turns : Int)]) 2 1000 := by
          refine (SzAll.cons kz.tuple (SzAll.cons (zI _ dn2) (SzAll.cons (zI _ un2) szAll_nil))).tuple.mono (by decide) (by decide)
        have tDz : ∀ {G : Hp} {q : Addr}, ToldAt G q f → Dz G (.ref q) (.tuple [.tuple (f.keys.map PyData.str), .int (f.days : Int), .int (f.turns : Int)]) := fun {G q} h => by
          obtain ⟨u, h1, h2⟩ := h
          exact .tup h1 (.cons (.tup h2 (dz_strs _)) (.cons (.int _) (.cons (.int _) .nil)))
        have sO : Sz (.str "told") 0 10 := ⟨by decide +kernel, by decide +kernel, by decide +kernel, by decide +kernel⟩
        have sT2 := (sz_two sO zF).mono (k := _) (l := 60) (U := 200000) (by decide) (by decide)
        refine ⟨_, rfl, _, _, rfl, .tup (x10 _ _ w9) (.cons (.str _) (.cons (tDz (tq.exd x10)) .nil)), rfl, sT2, ?_⟩
        refine ⟨_, rfl, ax, f.keys, rfl, sq9.exd x10, fun T0 H11 x11 w11 => ?_⟩
        refine ⟨_, rfl, _, rfl, by show 3 ≤ sizeLine; decide, fun pt hpt => ?_⟩
        generalize hG : upd _ _ _ = H12
        obtain ⟨x12, w12⟩ := obj_of hpt hG
        clear hG
        refine ⟨by show 2 ≤ sizeLine; decide, fun pp hpp => ?_⟩
        generalize hG : upd _ _ _ = H13
        obtain ⟨x13, w13⟩ := obj_of hpp hG
        clear hG
        have ta : ToldAt H13 pt f := ⟨T0, x13 _ _ w12, (x12.trans x13) _ _ w11⟩
        refine ⟨_, _, rfl, .tup w13 (.cons (.str _) (.cons (tDz ta) .nil)), rfl, sT2, ?_⟩
        refine ⟨rfl, ?_⟩
        rw [show (!decide (V.str (PyData.tuple [PyData.str "told", .tuple [.tuple (f.keys.map PyData.str), .int (f.days : Int), .int (f.turns : Int)]]).shown = V.str (PyData.tuple [PyData.str "told", .tuple [.tuple (f.keys.map PyData.str), .int (f.days : Int), .int (f.turns : Int)]]).shown)) = false from by rw [decide_eq_true rfl]; rfl]
        refine ⟨_, rfl, iteF ?_⟩
        have x1013 := ((x10.trans x11).trans x12).trans x13
        have g13 := g9.exd x1013
        have sq13 := sq9.exd x1013
        refine ⟨_, rfl, _, rfl, _, rfl, _, rfl, b, ax, f, rfl, g13.bx, g13.tab, sq13, ok, fun H14 g14 => ?_⟩
        refine ⟨_, rfl, iteF ?_⟩
        try dsimp only [tNext]
        have sq14 : StrSq H14 ax f.keys := sq13.imp (fun h => g14.get h noBox_strs (fun q z => by cases z)) (fun h => g14.get h rfl (fun q z => by cases z))
        obtain ⟨z0, hz0, zz, zn⟩ := four_facts four
        have i0 := zz z0 (by simp)
        have iu := zz (Txt.upper z0) (by simp)
        have iq := zz (z0 ++ "q") (by simp)
        have g214 := g13.trans g14
        refine ⟨_, rfl, _, rfl, _, rfl, fun px dxx hpx hdx ne => ?_⟩
        refine make_good sq14 ok g14.tab hpx hdx ne fun H15 n15 fr => ⟨rfl, ?_⟩
        refine gset (by (simp only [List.set_cons_succ, List.set_cons_zero]); rfl) ?_
        have g15 := g214.nws n15
        have sq15 := sq14.nws n15
        refine ⟨_, rfl, ixS sq15 hz0 ?_⟩
        refine ⟨⟨_, rfl⟩, _, rfl, rfl, by have := i0.2; omega, ?_⟩
        refine ⟨_, rfl, ixS sq15 hz0 ?_⟩
        refine ⟨by show 1 ≤ sizeLine; decide, fun l1 hl1 => ?_⟩
        generalize hG : upd _ _ _ = H16
        obtain ⟨x16, w16⟩ := obj_of hl1 hG
        clear hG
        refine ⟨_, rfl, ixS (sq15.exd x16) hz0 ?_⟩
        refine ⟨_, _, rfl, rfl, by have := i0.2; have := PySem.sizeLine_eq; show z0.length + 1 ≤ sizeLine; omega, ?_⟩
        refine ⟨_, rfl, ixS (sq15.exd x16) hz0 ?_⟩
        refine ⟨by show 1 ≤ sizeLine; decide, fun u1 hu1 => ?_⟩
        generalize hG : upd _ _ _ = H17
        obtain ⟨x17, w17⟩ := obj_of hu1 hG
        clear hG
        refine ⟨by show 9 ≤ sizeLine; decide, fun LL hLL => ?_⟩
        generalize hG : upd _ _ _ = H18
        obtain ⟨x18, w18⟩ := obj_of hLL hG
        clear hG
        have x1518 := (x16.trans x17).trans x18
        have g18 := g15.exd x1518
        have fr18 := fr.exd x1518
        have sd : ∀ {s : Str}, (∀ c ∈ s.cps.toList, c < 1114112) ∧ s.length ≤ 100 → TellD H18 (.str s) (.str s) := fun h => ⟨.str _, (str_sz h.1 h.2).mono (by decide) (by decide), rfl⟩
        have ss : ∀ {s : Str}, s.length ≤ 100 → short (.str s) := fun {s} h => by
          show s.length ≤ sizeLine
          have := PySem.sizeLine_eq
          omega
        have all9 : ∀ v ∈ [V.non, .int 5, .str "", .str "none", .str (Txt.upper z0), .ref l1, .bl true, .str (z0 ++ "q"), .ref u1], ∃ e, TellD H18 v e ∧ short v ∧ isKeyV f.keys v = false := by
          intro v mem
          simp only [List.mem_cons, List.not_mem_nil, or_false] at mem
          rcases mem with rfl | rfl | rfl | rfl | rfl | rfl | rfl | rfl | rfl
          · exact ⟨.none, tell_lit .non (by decide +kernel) (by decide +kernel) (by decide +kernel) (by decide +kernel) (by decide +kernel), trivial, rfl⟩
          · exact ⟨.int 5, tell_lit (.int _) (by decide +kernel) (by decide +kernel) (by decide +kernel) (by decide +kernel) (by decide +kernel), trivial, rfl⟩
          · exact ⟨_, sd (zz "" (by simp)), ss (zz "" (by simp)).2, zn "" (by simp)⟩
          · exact ⟨_, sd (zz "none" (by simp)), ss (zz "none" (by simp)).2, zn "none" (by simp)⟩
          · exact ⟨_, sd iu, ss iu.2, zn _ (by simp)⟩
          · refine ⟨.list [.str z0], ⟨.lst ((x17.trans x18) _ _ w16) (.cons (.str _) .nil), ?_, rfl⟩, trivial, rfl⟩
            exact (sz_one (str_sz i0.1 i0.2)).mono (by decide) (by decide)
          · exact ⟨.bool true, tell_lit (.bl _) (by decide +kernel) (by decide +kernel) (by decide +kernel) (by decide +kernel) (by decide +kernel), trivial, rfl⟩
          · exact ⟨_, sd iq, ss iq.2, zn _ (by simp)⟩
          · refine ⟨.tuple [.str z0], ⟨.tup (x18 _ _ w17) (.cons (.str _) .nil), ?_, rfl⟩, trivial, rfl⟩
            exact (sz_tuple (sz_one (str_sz i0.1 i0.2))).mono (by decide) (by decide)
        refine ⟨LL, rfl, ⟨_, SqL.of w18⟩, for_list (K := K) (a := LL) (xs := [V.non, .int 5, .str "", .str "none", .str (Txt.upper z0), .ref l1, .bl true, .str (z0 ++ "q"), .ref u1])
          (fun i σ H' => (∃ y1 y2 y3 y4 y5 y6 y7 y8 y9 y10 y11, σ = [some (.ref a), y1, y2, y3, y4, y5, y6, y7, y8, y9, y10, y11, some (.ref px)]) ∧ Nws [t1, t2] H18 H') ⟨⟨_, _, _, _, _, _, _, _, _, _, _, rfl⟩, Nws.refl g18.tab⟩ (fun i σ H' _ h => SqL.of (h.2.lst w18)) ?_ ?_⟩
        · rintro i v σ Hf hv ⟨⟨y1, y2, y3, y4, y5, y6, y7, y8, y9, y10, y11, rfl⟩, nf⟩
          obtain ⟨e, te, sh, nk⟩ := all9 v (List.mem_of_getElem? hv)
          refine gset (by (simp only [List.set_cons_succ, List.set_cons_zero]); rfl) ?_
          refine ⟨_, rfl, _, rfl, px, f, v, e, rfl, fr18.nws nf, okk, nf.tab, te.nws nf, sh, nk, fun H' n' => ?_⟩
          exact ⟨_, rfl, iteF ⟨⟨_, _, _, _, _, _, _, _, _, _, _, rfl⟩, nf.trans n'⟩⟩
        · rintro σ Hf ⟨⟨y1, y2, y3, y4, y5, y6, y7, y8, y9, y10, y11, rfl⟩, nf⟩
          exact ⟨⟨_, _, _, _, _, _, _, _, _, _, _, _, rfl⟩, back _ (g18.nws nf)⟩
    · rintro σ H1 ⟨⟨v1, v2, v3, v4, v5, v6, v7, v8, v9, v10, v11, v12, rfl⟩, n1⟩
      exact k H1
end
end LL
namespace LL
open PySem PySem.Spec PyProof.Rows L2
/-- an own error's facts, put together -/
def er_mk {x fld qual : Str} {st : Stmt} {K : PySem.W.Frag} {mg : Str → Option Value} {C f : Addr} {oc : Value} {od an : Option Addr} {sl : Array (Option Value)} {kV doc pm cdv ct : Value}
    {nm q N bs bm sn sub ab col dd k0 k1 k2 k3 k5} (g : mg x = some (.ref C)) (cls : K.lookup C = some (PySem.excClassObj nm q C N bs bm true sn sub ab col dd k0 k1 k2 k3 k5 "ValueError.__new__")) (ve : PySem.HandSPX.refsVE bm = true)
    (sa : PySem.W.findIn K (.ref C) "__setattr__" = some (some (.builtin "object.__setattr__"))) (ex : PySem.W.subIn K (.ref C) (.type "BaseException") = some true) (ty : PySem.W.typeIn K (.ref C) = some (.type "type")) (kc : PySem.W.keepIn K (.ref C) = true)
    (ga : PySem.W.findIn K (.ref C) "__getattribute__" = some (some (.builtin "BaseException.__getattribute__"))) (gg : PySem.W.findIn K (.ref C) "__getattr__" = some none) (hd : PySem.W.hasDictIn K C = true)
    (no : PySem.W.findIn K (.ref C) fld = some none) (ic : PySem.W.findIn K (.ref C) "__init__" = some (some (.ref f))) (ti : PySem.W.typeIn K (.ref f) = some (.type "function"))
    (l : K.lookup f = some ⟨oc, od, .func (PySem.W.fnOf "__init__" qual (defArgs st) (defBody st) (defScope st) .none kV doc pm an cdv ct), sl⟩) (c : PySem.W.codeIn K cdv qual = true) (k : PySem.W.keepIn K (.ref f) = true)
    (me : PySem.W.subIn K (.ref C) (.ref C) = some true)
    (b : ∀ (kV doc pm : Value) (an : Option Addr) (cdv ct : Value) (us : List Value), us.length = 2 → bindArgs (PySem.W.fnOf "__init__" qual (defArgs st) (defBody st) (defScope st) .none kV doc pm an cdv ct) ⟨us, []⟩ = pure ((["self", fld] : List Str).zip us)) :
    ErC K mg x fld st :=
  ⟨C, f, _, qual, g, ⟨⟨nm, q, N, bs, bm, sn, sub, ab, col, dd, k0, k1, k2, k3, k5, cls, ve⟩, sa, ex, ty, kc⟩, ⟨ga, gg, ex, hd⟩, no, ic, ti, fun_mk l c k, (fun_mk l c k).binds b, PySem.W.exm_ref ex hd ty me⟩
/-- a method's facts, put together -/
def mn_mk {C : Addr} {x qual : Str} {st : Stmt} {ps : List Str} {K : PySem.W.Frag} {f : Addr} {oc : Value} {od an : Option Addr} {sl : Array (Option Value)} {kV doc pm cdv ct : Value}
    (a : PySem.W.findIn K (.ref C) x = some (some (.ref f))) (i : PySem.W.isFn K (.ref f) = true)
    (l : K.lookup f = some ⟨oc, od, .func (PySem.W.fnOf x qual (defArgs st) (defBody st) (defScope st) .none kV doc pm an cdv ct), sl⟩)
    (c : PySem.W.codeIn K cdv qual = true) (k : PySem.W.keepIn K (.ref f) = true)
    (b : ∀ (kV doc pm : Value) (an : Option Addr) (cdv ct : Value) (us : List Value), us.length = ps.length → bindArgs (PySem.W.fnOf x qual (defArgs st) (defBody st) (defScope st) .none kV doc pm an cdv ct) ⟨us, []⟩ = pure (ps.zip us)) :
    Mn K C x qual st ps := ⟨f, _, fun_mk l c k, (fun_mk l c k).binds b, ⟨a, i, k⟩⟩
theorem mk_mk {K : PySem.W.Frag} {C : Addr} {x qual : Str} {st : Stmt} {ps : List Str} (m : Mn K C x qual st ps) (h : x = "__init__") (a : PySem.W.makesIn K C = true) (k : PySem.W.keepIn K (.ref C) = true) : Mk K C m.f :=
  ⟨a, by rw [← h]; exact m.h.at_, m.h.fn, k⟩
theorem na {K : PySem.W.Frag} {C : Addr} {f : Str} (h : PySem.W.findIn K (.ref C) f = some none) : NoAttr K C f := h
def ow_mk {K : PySem.W.Frag} {mg : Str → Option Value} {a : Addr} (g : mg "OWN_WORDS" = some (.ref a)) (w : ∀ H : Hp, SqT K H a (ownW.map V.str)) : Ow K mg := ⟨a, g, w⟩
theorem words_mk {K : PySem.W.Frag} {ow : Addr} {dd : Option Addr} {its : Array Value} {n : Nat} {sl : Array (Option Value)}
    (lk : K.lookup ow = some ⟨.type "tuple", dd, .seq its n, sl⟩) (hs : its.size ≤ sizeLine) (hv : Vals (ownW.map V.str) its.toList) : ∀ H : Hp, SqT K H ow (ownW.map V.str) :=
  fun _ => .inr ⟨_, its, n, lk, rfl, rfl, hs, hv⟩
theorem finish {l : PySem.W.OpenLaw} {w : World} {K : PySem.W.Frag} {h : Heap} {mg : Str → Option Value} {fa c1 c2 t1 t2 : Addr} (hfa : mg "law" = some (.ref fa)) (D : Defs K mg) (T : Tx K mg)
    (h1 : D.is_written_of.fd.code = .ref c1) (h2 : D.are_keys.fd.code = .ref c2) (bind : ∀ (s : Shared) (u : Value), BindsTo s D.law.fd ⟨[u], []⟩ [("_law_script", u)])
    (e1 : h.get? t1 = some { cls := .none, data := .fields #[] }) (f1 : K.lookup t1 = none) (g1 : PySem.W.CodeHd h c1 t1)
    (e2 : h.get? t2 = some { cls := .none, data := .fields #[] }) (f2 : K.lookup t2 = none) (g2 : PySem.W.CodeHd h c2 t2) : LawG l w K 14 63 "_law_script" mg fa h := by
  have ef : D.law.f = fa := by
    have := D.law.m.symm.trans hfa
    injection this with this
    injection this
  have two : ∀ {Pr : Addr × Addr → Prop}, Pr (c1, t1) → Pr (c2, t2) → ∀ p ∈ [(c1, t1), (c2, t2)], Pr p := fun {Pr} a b p hp => by
    rcases List.mem_cons.mp hp with rfl | hp
    · exact a
    · rw [List.mem_singleton.mp hp]
      exact b
  refine ⟨D.law.fd, [(c1, t1), (c2, t2)], spLaw K t1 t2, two e1 e2, two f1 f2, two g1 g2, bind, ?_, ?_⟩
  · intro H a ns hl ht hs
    refine ⟨a, ns, rfl, hs, hl, fun P hP => ?_, fun _ => rfl⟩
    rcases List.mem_cons.mp hP with rfl | hP
    · exact ⟨#[], ht (c1, P) List.mem_cons_self, trivial⟩
    · rw [List.mem_singleton.mp hP]
      exact ⟨#[], ht (c2, t2) (List.mem_cons_of_mem _ List.mem_cons_self), trivial⟩
  · intro base _ _ TB
    have ok := ok_law (P := l.prog) (w := w) (base := base) D T ⟨c1, c2, h1, h2, TB (c1, t1) List.mem_cons_self, TB (c2, t2) (List.mem_cons_of_mem _ List.mem_cons_self)⟩
    rw [ef] at ok
    exact ok
end LL
open PySem PySem.W PyProof.Rows in
set_option maxRecDepth 100000 in
set_option maxHeartbeats 0 in
theorem PySem.Challenge.cw_leastlore_k13_frames_refused_holds : PySem.Challenge.rw_leastlore_k13_frames_refused.Holds := by
  w_on; o_law; k_head; (case hw => w_witness2)
  k_fill
  refine LL.walk_G (l := PySem.Challenge.rw_leastlore_k13_frames_refused) (arg := "_law_script") (lvl := 14) (most := 63) rfl (by decide) rfl ⟨rfl, by decide, by decide⟩ (fun w h Y => PySem.W.kIn_of Y) ?F
  case F =>
    intro w mg fa h Y KX G hmg own
    refine' LL.finish hmg ⟨(LL.dn_mk (x := "_wall") (st := LL.scwall_st) (ps := ["k"]) KX G ?ad_wall ?ld_wall ?cd_wall ?kd_wall (fun _ _ _ _ _ _ us hl => match us, hl with | [_], _ => rfl)), (LL.dn_mk (x := "is_whole") (st := LL.sciswhole_st) (ps := ["thing"]) KX G ?ad_is_whole ?ld_is_whole ?cd_is_whole ?kd_is_whole (fun _ _ _ _ _ _ us hl => match us, hl with | [_], _ => rfl)), (LL.dn_mk (x := "is_within") (st := LL.sciswithin_st) (ps := ["thing", "low", "high"]) KX G ?ad_is_within ?ld_is_within ?cd_is_within ?kd_is_within (fun _ _ _ _ _ _ us hl => match us, hl with | [_, _, _], _ => rfl)), (LL.dn_mk (x := "is_written_of") (st := LL.sciswrittenof_st) (ps := ["thing", "signs", "most"]) KX G ?ad_is_written_of ?ld_is_written_of ?cd_is_written_of ?kd_is_written_of (fun _ _ _ _ _ _ us hl => match us, hl with | [_, _, _], _ => rfl)), (LL.dn_mk (x := "is_name") (st := LL.scisname_st) (ps := ["thing"]) KX G ?ad_is_name ?ld_is_name ?cd_is_name ?kd_is_name (fun _ _ _ _ _ _ us hl => match us, hl with | [_], _ => rfl)), (LL.dn_mk (x := "are_keys") (st := LL.scarekeys_st) (ps := ["thing"]) KX G ?ad_are_keys ?ld_are_keys ?cd_are_keys ?kd_are_keys (fun _ _ _ _ _ _ us hl => match us, hl with | [_], _ => rfl)), (LL.dn_mk (x := "frame_of") (st := LL.scframeof_st) (ps := ["told"]) KX G ?ad_frame_of ?ld_frame_of ?cd_frame_of ?kd_frame_of (fun _ _ _ _ _ _ us hl => match us, hl with | [_], _ => rfl)), (LL.dn_mk (x := "_law_cell_at") (st := LL.scLcellat_st) (ps := ["_law_script", "_law_k"]) KX G ?ad_law_cell_at ?ld_law_cell_at ?cd_law_cell_at ?kd_law_cell_at (fun _ _ _ _ _ _ us hl => match us, hl with | [_, _], _ => rfl)), (LL.dn_mk (x := "_law_box") (st := LL.scLbox_st) (ps := ["_law_cell"]) KX G ?ad_law_box ?ld_law_box ?cd_law_box ?kd_law_box (fun _ _ _ _ _ _ us hl => match us, hl with | [_], _ => rfl)), (LL.dn_mk (x := "_law_take") (st := LL.scLtake_st) (ps := ["_law_box_here", "_law_many"]) KX G ?ad_law_take ?ld_law_take ?cd_law_take ?kd_law_take (fun _ _ _ _ _ _ us hl => match us, hl with | [_, _], _ => rfl)), (LL.dn_mk (x := "_law_keys") (st := LL.scLkeys_st) (ps := ["_law_box_here"]) KX G ?ad_law_keys ?ld_law_keys ?cd_law_keys ?kd_law_keys (fun _ _ _ _ _ _ us hl => match us, hl with | [_], _ => rfl)), (LL.dn_mk (x := "_law_spoilt_keys") (st := LL.scLspoiltkeys_st) (ps := ["_law_box_here"]) KX G ?ad_law_spoilt_keys ?ld_law_spoilt_keys ?cd_law_spoilt_keys ?kd_law_spoilt_keys (fun _ _ _ _ _ _ us hl => match us, hl with | [_], _ => rfl)), (LL.dn_mk (x := "_law_count") (st := LL.scLcount_st) (ps := ["_law_box_here"]) KX G ?ad_law_count ?ld_law_count ?cd_law_count ?kd_law_count (fun _ _ _ _ _ _ us hl => match us, hl with | [_], _ => rfl)), (LL.dn_mk (x := "_law_tried") (st := LL.scLtried_st) (ps := ["_law_way", "_law_keys_here", "_law_days", "_law_turns"]) KX G ?ad_law_tried ?ld_law_tried ?cd_law_tried ?kd_law_tried (fun _ _ _ _ _ _ us hl => match us, hl with | [_, _, _, _], _ => rfl)), (LL.dn_mk (x := "_law_key_refused") (st := LL.scLkeyrefused_st) (ps := ["_law_frame", "_law_thing"]) KX G ?ad_law_key_refused ?ld_law_key_refused ?cd_law_key_refused ?kd_law_key_refused (fun _ _ _ _ _ _ us hl => match us, hl with | [_, _], _ => rfl)), (LL.dn_mk (x := "_law_told_right") (st := LL.scLtoldright_st) (ps := ["_law_box_here", "_law_keys_here", "_law_days", "_law_turns"]) KX G ?ad_law_told_right ?ld_law_told_right ?cd_law_told_right ?kd_law_told_right (fun _ _ _ _ _ _ us hl => match us, hl with | [_, _, _, _], _ => rfl)), (LL.dn_mk (x := "law") (st := LL.sclaw_st) (ps := ["_law_script"]) KX G ?ad_law ?ld_law ?cd_law ?kd_law (fun _ _ _ _ _ _ us hl => match us, hl with | [_], _ => rfl)), (LL.er_mk (qual := "NoFrame.__init__") (PySem.W.mg_of KX G ?eg_NoFrame) ?ecl_NoFrame ?eve_NoFrame ?esa_NoFrame ?eex_NoFrame ?ety_NoFrame ?ekc_NoFrame ?ega_NoFrame ?egg_NoFrame ?ehd_NoFrame ?eno_NoFrame ?eic_NoFrame ?eti_NoFrame ?el_NoFrame ?ec_NoFrame ?ek_NoFrame ?eme_NoFrame (fun _ _ _ _ _ _ us hl => match us, hl with | [_, _], _ => rfl)), (LL.er_mk (qual := "NoKey.__init__") (PySem.W.mg_of KX G ?eg_NoKey) ?ecl_NoKey ?eve_NoKey ?esa_NoKey ?eex_NoKey ?ety_NoKey ?ekc_NoKey ?ega_NoKey ?egg_NoKey ?ehd_NoKey ?eno_NoKey ?eic_NoKey ?eti_NoKey ?el_NoKey ?ec_NoKey ?ek_NoKey ?eme_NoKey (fun _ _ _ _ _ _ us hl => match us, hl with | [_, _], _ => rfl)), _, (LL.mn_mk (x := "__init__") (qual := "Frame.__init__") (st := LL.scFrameinit_st) (ps := ["self", "keys", "days", "turns"]) ?am_Frame___init__ ?im_Frame___init__ ?lm_Frame___init__ ?cm_Frame___init__ ?km_Frame___init__ (fun _ _ _ _ _ _ us hl => match us, hl with | [_, _, _, _], _ => rfl)), (LL.mn_mk (x := "key_names") (qual := "Frame.key_names") (st := LL.scFramekeynames_st) (ps := ["self"]) ?am_Frame_key_names ?im_Frame_key_names ?lm_Frame_key_names ?cm_Frame_key_names ?km_Frame_key_names (fun _ _ _ _ _ _ us hl => match us, hl with | [_], _ => rfl)), (LL.mn_mk (x := "now") (qual := "Frame.now") (st := LL.scFramenow_st) (ps := ["self"]) ?am_Frame_now ?im_Frame_now ?lm_Frame_now ?cm_Frame_now ?km_Frame_now (fun _ _ _ _ _ _ us hl => match us, hl with | [_], _ => rfl)), (LL.mn_mk (x := "has_key") (qual := "Frame.has_key") (st := LL.scFramehaskey_st) (ps := ["self", "thing"]) ?am_Frame_has_key ?im_Frame_has_key ?lm_Frame_has_key ?cm_Frame_has_key ?km_Frame_has_key (fun _ _ _ _ _ _ us hl => match us, hl with | [_, _], _ => rfl)), (LL.mn_mk (x := "place_of") (qual := "Frame.place_of") (st := LL.scFrameplaceof_st) (ps := ["self", "key"]) ?am_Frame_place_of ?im_Frame_place_of ?lm_Frame_place_of ?cm_Frame_place_of ?km_Frame_place_of (fun _ _ _ _ _ _ us hl => match us, hl with | [_, _], _ => rfl)), (LL.mn_mk (x := "is_point") (qual := "Frame.is_point") (st := LL.scFrameispoint_st) (ps := ["self", "thing"]) ?am_Frame_is_point ?im_Frame_is_point ?lm_Frame_is_point ?cm_Frame_is_point ?km_Frame_is_point (fun _ _ _ _ _ _ us hl => match us, hl with | [_, _], _ => rfl)), (LL.mn_mk (x := "told") (qual := "Frame.told") (st := LL.scFrametold_st) (ps := ["self"]) ?am_Frame_told ?im_Frame_told ?lm_Frame_told ?cm_Frame_told ?km_Frame_told (fun _ _ _ _ _ _ us hl => match us, hl with | [_], _ => rfl)), ⟨?pg_Frame, ?hd_Frame, ?po_Frame, ?sa_Frame⟩, (LL.mk_mk _ rfl ?mk_Frame ?kc_Frame), (PySem.W.mg_of KX G ?cl_Frame), (LL.na ?n_Frame_days), (LL.na ?n_Frame_turns), (LL.na ?n_Frame__places), (LL.ow_mk (PySem.W.mg_of KX G ?g_OWN) ?words), (LL.exn_mk (PySem.W.mg_of KX G ?lore)), ⟨?xaNoFrame1, ?xaNoFrame2, ?xaNoFrame3, ?xaNoFrame4, ?xaNoFrame5, ?xaNoFrame6, ?xaNoFrame7, ?xaNoFrame8⟩, ⟨?xaNoKey1, ?xaNoKey2, ?xaNoKey3, ?xaNoKey4, ?xaNoKey5, ?xaNoKey6, ?xaNoKey7, ?xaNoKey8⟩, (LL.kit_ref ?klNoFrame1 ?klNoFrame2 ?klNoFrame3 ?klNoFrame4), (PySem.W.exm_ref ?xlNoFrame1 ?xlNoFrame2 ?xlNoFrame3 ?xlNoFrame4), (PySem.W.exm_ref ?xmNoFrameNoKey1 ?xmNoFrameNoKey2 ?xmNoFrameNoKey3 ?xmNoFrameNoKey4), (LL.kit_ref ?klNoKey1 ?klNoKey2 ?klNoKey3 ?klNoKey4), (PySem.W.exm_ref ?xlNoKey1 ?xlNoKey2 ?xlNoKey3 ?xlNoKey4), (PySem.W.exm_ref ?xmNoKeyNoFrame1 ?xmNoKeyNoFrame2 ?xmNoKeyNoFrame3 ?xmNoKeyNoFrame4)⟩ (LL.tx_mk (PySem.W.mg_none_of KX G ?z_all) (PySem.W.mg_none_of KX G ?z_range) (PySem.W.mg_none_of KX G ?z_isinstance) (PySem.W.mg_none_of KX G ?z_int) (PySem.W.mg_none_of KX G ?z_len) (PySem.W.mg_none_of KX G ?z_repr) (PySem.W.mg_none_of KX G ?z_tuple) (PySem.W.mg_none_of KX G ?z_list) (PySem.W.mg_none_of KX G ?z_max) (PySem.W.mg_none_of KX G ?z_bool) (PySem.W.mg_none_of KX G ?z_str) (PySem.W.mg_none_of KX G ?z_min) (PySem.W.mg_none_of KX G ?z_enumerate) (PySem.W.mg_none_of KX G ?z_set) (PySem.W.mg_of KX G ?g_LETTERS) (PySem.W.mg_of KX G ?g_MOST_IN_NAME) (PySem.W.mg_of KX G ?g_MOST_KEYS) (PySem.W.mg_of KX G ?g_MOST_DAYS) (PySem.W.mg_of KX G ?g_MOST_TURNS)) ?zc0 ?zc1 (fun s u => .of_eq rfl) ?zt0_1 ?zt0_2 ?zt0_3 ?zt1_1 ?zt1_2 ?zt1_3
    (case eg_NoFrame => k_is)
    (case eic_NoFrame => k_is)
    (case ecl_NoFrame => k_is)
    (case eve_NoFrame => first | rfl | decide +kernel)
    (case esa_NoFrame => k_is)
    (case eex_NoFrame => k_is)
    (case ety_NoFrame => k_is)
    (case ekc_NoFrame => k_is)
    (case ega_NoFrame => k_is)
    (case egg_NoFrame => k_is)
    (case ehd_NoFrame => k_is)
    (case eno_NoFrame => k_is)
    (case eti_NoFrame => k_is)
    (case el_NoFrame => k_is)
    (case ec_NoFrame => k_is)
    (case ek_NoFrame => k_is)
    (case eme_NoFrame => k_is)
    (case eg_NoKey => k_is)
    (case eic_NoKey => k_is)
    (case ecl_NoKey => k_is)
    (case eve_NoKey => first | rfl | decide +kernel)
    (case esa_NoKey => k_is)
    (case eex_NoKey => k_is)
    (case ety_NoKey => k_is)
    (case ekc_NoKey => k_is)
    (case ega_NoKey => k_is)
    (case egg_NoKey => k_is)
    (case ehd_NoKey => k_is)
    (case eno_NoKey => k_is)
    (case eti_NoKey => k_is)
    (case el_NoKey => k_is)
    (case ec_NoKey => k_is)
    (case ek_NoKey => k_is)
    (case eme_NoKey => k_is)
    (case cl_Frame => k_is)
    (case lore => k_is)
    (case xaNoFrame1 => (first | k_is | (dsimp only [LL.er_mk, LL.exn_mk]; first | k_is | rfl | decide +kernel)))
    (case xaNoFrame2 => (first | k_is | (dsimp only [LL.er_mk, LL.exn_mk]; first | k_is | rfl | decide +kernel)))
    (case xaNoFrame3 => (first | k_is | (dsimp only [LL.er_mk, LL.exn_mk]; first | k_is | rfl | decide +kernel)))
    (case xaNoFrame4 => (first | k_is | (dsimp only [LL.er_mk, LL.exn_mk]; first | k_is | rfl | decide +kernel)))
    (case xaNoFrame5 => (first | k_is | (dsimp only [LL.er_mk, LL.exn_mk]; first | k_is | rfl | decide +kernel)))
    (case xaNoFrame6 => (first | k_is | (dsimp only [LL.er_mk, LL.exn_mk]; first | k_is | rfl | decide +kernel)))
    (case xaNoFrame7 => (first | k_is | (dsimp only [LL.er_mk, LL.exn_mk]; first | k_is | rfl | decide +kernel)))
    (case xaNoFrame8 => (first | k_is | (dsimp only [LL.er_mk, LL.exn_mk]; first | k_is | rfl | decide +kernel)))
    (case xaNoKey1 => (first | k_is | (dsimp only [LL.er_mk, LL.exn_mk]; first | k_is | rfl | decide +kernel)))
    (case xaNoKey2 => (first | k_is | (dsimp only [LL.er_mk, LL.exn_mk]; first | k_is | rfl | decide +kernel)))
    (case xaNoKey3 => (first | k_is | (dsimp only [LL.er_mk, LL.exn_mk]; first | k_is | rfl | decide +kernel)))
    (case xaNoKey4 => (first | k_is | (dsimp only [LL.er_mk, LL.exn_mk]; first | k_is | rfl | decide +kernel)))
    (case xaNoKey5 => (first | k_is | (dsimp only [LL.er_mk, LL.exn_mk]; first | k_is | rfl | decide +kernel)))
    (case xaNoKey6 => (first | k_is | (dsimp only [LL.er_mk, LL.exn_mk]; first | k_is | rfl | decide +kernel)))
    (case xaNoKey7 => (first | k_is | (dsimp only [LL.er_mk, LL.exn_mk]; first | k_is | rfl | decide +kernel)))
    (case xaNoKey8 => (first | k_is | (dsimp only [LL.er_mk, LL.exn_mk]; first | k_is | rfl | decide +kernel)))
    (case klNoFrame1 => (first | k_is | (dsimp only [LL.er_mk, LL.exn_mk]; first | k_is | rfl | decide +kernel)))
    (case klNoFrame2 => (first | k_is | (dsimp only [LL.er_mk, LL.exn_mk]; first | k_is | rfl | decide +kernel)))
    (case klNoFrame3 => (first | k_is | (dsimp only [LL.er_mk, LL.exn_mk]; first | k_is | rfl | decide +kernel)))
    (case klNoFrame4 => (first | k_is | (dsimp only [LL.er_mk, LL.exn_mk]; first | k_is | rfl | decide +kernel)))
    (case xlNoFrame1 => (first | k_is | (dsimp only [LL.er_mk, LL.exn_mk]; first | k_is | rfl | decide +kernel)))
    (case xlNoFrame2 => (first | k_is | (dsimp only [LL.er_mk, LL.exn_mk]; first | k_is | rfl | decide +kernel)))
    (case xlNoFrame3 => (first | k_is | (dsimp only [LL.er_mk, LL.exn_mk]; first | k_is | rfl | decide +kernel)))
    (case xlNoFrame4 => (first | k_is | (dsimp only [LL.er_mk, LL.exn_mk]; first | k_is | rfl | decide +kernel)))
    (case xmNoFrameNoKey1 => (first | k_is | (dsimp only [LL.er_mk, LL.exn_mk]; first | k_is | rfl | decide +kernel)))
    (case xmNoFrameNoKey2 => (first | k_is | (dsimp only [LL.er_mk, LL.exn_mk]; first | k_is | rfl | decide +kernel)))
    (case xmNoFrameNoKey3 => (first | k_is | (dsimp only [LL.er_mk, LL.exn_mk]; first | k_is | rfl | decide +kernel)))
    (case xmNoFrameNoKey4 => (first | k_is | (dsimp only [LL.er_mk, LL.exn_mk]; first | k_is | rfl | decide +kernel)))
    (case klNoKey1 => (first | k_is | (dsimp only [LL.er_mk, LL.exn_mk]; first | k_is | rfl | decide +kernel)))
    (case klNoKey2 => (first | k_is | (dsimp only [LL.er_mk, LL.exn_mk]; first | k_is | rfl | decide +kernel)))
    (case klNoKey3 => (first | k_is | (dsimp only [LL.er_mk, LL.exn_mk]; first | k_is | rfl | decide +kernel)))
    (case klNoKey4 => (first | k_is | (dsimp only [LL.er_mk, LL.exn_mk]; first | k_is | rfl | decide +kernel)))
    (case xlNoKey1 => (first | k_is | (dsimp only [LL.er_mk, LL.exn_mk]; first | k_is | rfl | decide +kernel)))
    (case xlNoKey2 => (first | k_is | (dsimp only [LL.er_mk, LL.exn_mk]; first | k_is | rfl | decide +kernel)))
    (case xlNoKey3 => (first | k_is | (dsimp only [LL.er_mk, LL.exn_mk]; first | k_is | rfl | decide +kernel)))
    (case xlNoKey4 => (first | k_is | (dsimp only [LL.er_mk, LL.exn_mk]; first | k_is | rfl | decide +kernel)))
    (case xmNoKeyNoFrame1 => (first | k_is | (dsimp only [LL.er_mk, LL.exn_mk]; first | k_is | rfl | decide +kernel)))
    (case xmNoKeyNoFrame2 => (first | k_is | (dsimp only [LL.er_mk, LL.exn_mk]; first | k_is | rfl | decide +kernel)))
    (case xmNoKeyNoFrame3 => (first | k_is | (dsimp only [LL.er_mk, LL.exn_mk]; first | k_is | rfl | decide +kernel)))
    (case xmNoKeyNoFrame4 => (first | k_is | (dsimp only [LL.er_mk, LL.exn_mk]; first | k_is | rfl | decide +kernel)))
    (case am_Frame___init__ => k_is)
    (case im_Frame___init__ => k_is)
    (case lm_Frame___init__ => k_is)
    (case cm_Frame___init__ => k_is)
    (case km_Frame___init__ => k_is)
    (case am_Frame_key_names => k_is)
    (case im_Frame_key_names => k_is)
    (case lm_Frame_key_names => k_is)
    (case cm_Frame_key_names => k_is)
    (case km_Frame_key_names => k_is)
    (case am_Frame_now => k_is)
    (case im_Frame_now => k_is)
    (case lm_Frame_now => k_is)
    (case cm_Frame_now => k_is)
    (case km_Frame_now => k_is)
    (case am_Frame_has_key => k_is)
    (case im_Frame_has_key => k_is)
    (case lm_Frame_has_key => k_is)
    (case cm_Frame_has_key => k_is)
    (case km_Frame_has_key => k_is)
    (case am_Frame_place_of => k_is)
    (case im_Frame_place_of => k_is)
    (case lm_Frame_place_of => k_is)
    (case cm_Frame_place_of => k_is)
    (case km_Frame_place_of => k_is)
    (case am_Frame_is_point => k_is)
    (case im_Frame_is_point => k_is)
    (case lm_Frame_is_point => k_is)
    (case cm_Frame_is_point => k_is)
    (case km_Frame_is_point => k_is)
    (case am_Frame_told => k_is)
    (case im_Frame_told => k_is)
    (case lm_Frame_told => k_is)
    (case cm_Frame_told => k_is)
    (case km_Frame_told => k_is)
    (case pg_Frame => k_is)
    (case hd_Frame => k_is)
    (case po_Frame => k_is)
    (case sa_Frame => k_is)
    (case mk_Frame => k_is)
    (case kc_Frame => k_is)
    (case n_Frame_days => k_is)
    (case n_Frame_turns => k_is)
    (case n_Frame__places => k_is)
    (case ad_law => k_is)
    (case ld_law => k_is)
    (case cd_law => k_is)
    (case kd_law => k_is)
    (case ad_law_told_right => k_is)
    (case ld_law_told_right => k_is)
    (case cd_law_told_right => k_is)
    (case kd_law_told_right => k_is)
    (case ad_law_key_refused => k_is)
    (case ld_law_key_refused => k_is)
    (case cd_law_key_refused => k_is)
    (case kd_law_key_refused => k_is)
    (case ad_law_tried => k_is)
    (case ld_law_tried => k_is)
    (case cd_law_tried => k_is)
    (case kd_law_tried => k_is)
    (case ad_law_count => k_is)
    (case ld_law_count => k_is)
    (case cd_law_count => k_is)
    (case kd_law_count => k_is)
    (case ad_law_spoilt_keys => k_is)
    (case ld_law_spoilt_keys => k_is)
    (case cd_law_spoilt_keys => k_is)
    (case kd_law_spoilt_keys => k_is)
    (case ad_law_keys => k_is)
    (case ld_law_keys => k_is)
    (case cd_law_keys => k_is)
    (case kd_law_keys => k_is)
    (case ad_law_take => k_is)
    (case ld_law_take => k_is)
    (case cd_law_take => k_is)
    (case kd_law_take => k_is)
    (case ad_law_box => k_is)
    (case ld_law_box => k_is)
    (case cd_law_box => k_is)
    (case kd_law_box => k_is)
    (case ad_law_cell_at => k_is)
    (case ld_law_cell_at => k_is)
    (case cd_law_cell_at => k_is)
    (case kd_law_cell_at => k_is)
    (case ad_frame_of => k_is)
    (case ld_frame_of => k_is)
    (case cd_frame_of => k_is)
    (case kd_frame_of => k_is)
    (case ad_are_keys => k_is)
    (case ld_are_keys => k_is)
    (case cd_are_keys => k_is)
    (case kd_are_keys => k_is)
    (case ad_is_name => k_is)
    (case ld_is_name => k_is)
    (case cd_is_name => k_is)
    (case kd_is_name => k_is)
    (case ad_is_written_of => k_is)
    (case ld_is_written_of => k_is)
    (case cd_is_written_of => k_is)
    (case kd_is_written_of => k_is)
    (case ad_is_within => k_is)
    (case ld_is_within => k_is)
    (case cd_is_within => k_is)
    (case kd_is_within => k_is)
    (case ad_is_whole => k_is)
    (case ld_is_whole => k_is)
    (case cd_is_whole => k_is)
    (case kd_is_whole => k_is)
    (case ad_wall => k_is)
    (case ld_wall => k_is)
    (case cd_wall => k_is)
    (case kd_wall => k_is)
    (case z_all => k_is)
    (case z_range => k_is)
    (case z_isinstance => k_is)
    (case z_int => k_is)
    (case z_len => k_is)
    (case z_repr => k_is)
    (case z_tuple => k_is)
    (case z_list => k_is)
    (case z_max => k_is)
    (case z_bool => k_is)
    (case z_str => k_is)
    (case z_min => k_is)
    (case z_enumerate => k_is)
    (case z_set => k_is)
    (case g_LETTERS => k_is)
    (case g_MOST_IN_NAME => k_is)
    (case g_MOST_KEYS => k_is)
    (case g_MOST_DAYS => k_is)
    (case g_MOST_TURNS => k_is)
    (case g_OWN => k_is)
    (case words => (refine' LL.words_mk ?wq ?wr ?ws; (case wq => k_is); (case wr => decide); (case ws => exact (.cons ⟨_, rfl⟩ (.cons ⟨_, rfl⟩ (.cons ⟨_, rfl⟩ (.cons ⟨_, rfl⟩ (.cons ⟨_, rfl⟩ (.cons ⟨_, rfl⟩ (.cons ⟨_, rfl⟩ (.cons ⟨_, rfl⟩ (.cons ⟨_, rfl⟩ (.cons ⟨_, rfl⟩ (.cons ⟨_, rfl⟩ (.cons ⟨_, rfl⟩ (.cons ⟨_, rfl⟩ (.cons ⟨_, rfl⟩ (.cons ⟨_, rfl⟩ (.cons ⟨_, rfl⟩ .nil)))))))))))))))))))
    (case zc0 => rfl)
    (case zt0_1 => (refine' LL.own_mk (fun f hf => own "is_written_of" f (by decide +kernel) hf) (PySem.W.mg_of KX G ?mm) ?y0 ?y1 ?y2 ?y3 ?y4; (case mm => k_is); (case y0 => k_is); (case y1 => rfl); (case y2 => rfl); (case y3 => k_is); (case y4 => rfl)))
    (case zt0_2 => first | rfl | kernel_rfl)
    (case zt0_3 => (refine' LL.code_mk KX ?lk ?x2 ?x3 ?x4 ?x5 ?x6 ?x7 ?x8; (case lk => k_is); (case x2 => rfl); (case x3 => rfl); (case x4 => rfl); (case x5 => rfl); (case x6 => rfl); (case x7 => rfl); (case x8 => decide)))
    (case zc1 => rfl)
    (case zt1_1 => (refine' LL.own_mk (fun f hf => own "are_keys" f (by decide +kernel) hf) (PySem.W.mg_of KX G ?mm) ?y0 ?y1 ?y2 ?y3 ?y4; (case mm => k_is); (case y0 => k_is); (case y1 => rfl); (case y2 => rfl); (case y3 => k_is); (case y4 => rfl)))
    (case zt1_2 => first | rfl | kernel_rfl)
    (case zt1_3 => (refine' LL.code_mk KX ?lk ?x2 ?x3 ?x4 ?x5 ?x6 ?x7 ?x8; (case lk => k_is); (case x2 => rfl); (case x3 => rfl); (case x4 => rfl); (case x5 => rfl); (case x6 => rfl); (case x7 => rfl); (case x8 => decide)))
