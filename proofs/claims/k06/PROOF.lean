import PyProof.Rows.All
import Wide.All
import OpenK.AllK
import Wide.FinOn
import HandS.ForMost
import HandS.AnyAll
import HandS.EndTab
import HandS.EndOwn
import PyProof.ReprRoads
import HandS.GenOver
import HandS.WideBits
import HandS.IsInst
import HandS.Style
import HandS.Wide
import HandS.Flow
import HandS.NoneIn
import HandS.Conv
import HandS.RevTup
import HandS.Rev
import KE.KRevSl
import HandS.Strs
import HandS.DictComp
import KE.GoesMore
import HandS.More
import HandS.RevRange
import HandS.Text
import HandS.ForExc
import HandS.TryMany
import HandS.ExcInit
import HandS.ExcField
import HandS.ExcIs
import PyProof.NeKinds
import HandS.Defaults
import HandS.ExcOwn
import PySem.Challenge.RW_leastlore_k06_disks_and_power
import HandS.TupMul
import HandS.RaiseMore
import HandS.TupAny
import HandS.Walk
set_option Elab.async false
set_option linter.all false
set_option maxRecDepth 100000
set_option maxHeartbeats 4000000
namespace LL
open PySem PySem.Spec PyProof.Rows L2
/-! ### defs that are called where no repr runs -/
/-- as FnOk, but only where it is known that no repr is under way -/
structure FnG (P : Program) (w : World) (K : PySem.W.Frag) (mg : Str → Option Value) (base : Heap) (k : Nat) (f : Addr) (fd : FuncData) (ps : List Str) (sp : Sp) : Prop where
  len : ∀ vs H Q E, sp vs H Q E → vs.length = ps.length
  run : ∀ (A : Around) (outer : List Env) (s : Shared) (H : Hp) (args : Args) (us : List Value) (vs : List V) (Q : VK) (E : XK),
    A.guards = some [] → Room k A → Env0 P w K mg base A outer s H → BindsTo s fd args (ps.zip us) → Vals vs us → sp vs H Q E →
    codeAny (model P w) A (.call (.ref f) args) (CR CX0 outer P w H s Q E) s
section
variable {P : Program} {w : World} {K : PySem.W.Frag} {mg : Str → Option Value} {base : Heap}
theorem fnG_of {x : Str} {st : Stmt} {f : Addr} {fd : FuncData} {N ps : List Str} {k : Nat} {sp : Sp} (F : Fun K x x st f fd) (S : FnScope N ps (defScope st))
    (len : ∀ vs H Q E, sp vs H Q E → vs.length = ps.length)
    (body : ∀ (cdv : Value) (A : Around) (outer : List Env) (s : Shared) (H : Hp) (vs : List V) (Q : VK) (E : XK), A.guards = some [] →
      Room k (A.deeper (envOfC x (defScope st) s.heap.objs.size f cdv)) → sp vs H Q E →
      ∃ t, PSs (cxOf CX0 P w K mg base N x (defScope st) f cdv A outer s H E).nox (defBody st) t ∧ t { nx := fun _ H' => Q .non H', rt := Q } (start N vs) H) :
    FnG P w K mg base (k + 1) f fd ps sp := by
  refine ⟨len, fun A outer s H args us vs Q E guard room e0 bind rel want => ?_⟩
  obtain ⟨c1, d1, kv, doc, pm, an, cdv, c2, sl, rfl, look, isCode⟩ := F.ex
  have long := len _ _ _ _ want
  have inK : K.In s.heap := e0.mod.kin.keeps fun b o e => (e0.bs b o e).1
  have free : s.heap.NoLimit := e0.mod.nolimit.keeps fun b o e => (e0.bs b o e).1
  have pars : ∀ y ∈ ps.zip us, (defScope st).names.lookup y.1 = some .local ∨
      ((defScope st).names.lookup y.1 = some .cell ∧ ((cellsFrom (s.heap.objs.size + 1) (defScope st).names []).lookup y.1).isSome = true) := by
    rintro ⟨n, v⟩ hy
    rcases S.par n (List.of_mem_zip hy).1 with q | q
    · exact Or.inl q
    · exact Or.inr ⟨q, PySem.W.cellsFrom_some _ _ _ (Or.inl q)⟩
  refine codeAny_call_function room.depth (inK _ _ look) rfl S.co S.gen rfl (PySem.W.codeRec_of inK isCode) (bind _ _ _ _ ?_)
  refine wpAny_newFunctionEnv_cells S.kind pars fun env isEnv s1 made => ?_
  subst isEnv
  refine ⟨free.keeps made.toInCall.keep, codeAny_func ?_⟩
  obtain ⟨t, ht, hq⟩ := body cdv A outer s H vs Q E guard (room.deeper _) want
  have I := inv_start (CX := CX0) (E := E) S room.hd e0 long rel made
  have ht2 := ht.nox
  refine wpAny_mono (ht2.run [] s1 (start N vs) H _ I hq) (fun fl s' end_ => ?_) fun e s' z => z
  cases fl with
  | ret u =>
    obtain ⟨v, σ', H', J, rv, q⟩ := end_
    exact ⟨v, H', J.os, J.bare, J.base, J.hok, rv, q⟩
  | next =>
    obtain ⟨σ', H', J, q⟩ := end_
    exact ⟨.non, H', J.os, J.bare, J.base, J.hok, rfl, q⟩
  | brk =>
    obtain ⟨_, _, _, q⟩ := end_
    exact False.elim q
  | cont =>
    obtain ⟨_, _, _, q⟩ := end_
    exact False.elim q
end
/-- f(e, ..) for such a def -/
theorem pe_callG {X : Cx} {k : Nat} {f : Addr} {fd : FuncData} {ps : List Str} {sp : Sp} {x : Str} {p pos : Pos} {e : Expr} {es : List Expr} {t : TA}
    (F : FnG X.prog X.w X.K X.mg X.base k f fd ps sp) (guard : X.A.guards = some []) (room : Room k X.A) (hg : Gl X x) (hm : X.mg x = some (.ref f))
    (kp : PySem.W.keepIn X.K (.ref f) = true) (hb : Binds X.K fd ps []) (ha : PA X (e :: es) t) (hd : (x == ("__debug__" : Str)) = false := by decide)
    (he : starEach (e :: es) X.env = (false, eval e X.env) :: starEach es X.env := by rfl) (hp : (backTo pos (starEach es X.env)).any (·.1) = false := by rfl) :
    PE X (.Call (.Name x p) (e :: es) [] pos) (tCall sp [] E0 t) := by
  refine ⟨fun pins s σ H Q I h => wpAny_Call_Name_kw (ld_glob I hg hm ?_ hd)⟩
  refine PySem.W.callWith_K (h₀ := X.base) I.ok.mod.kin kp (thn (ha.run pos pins s σ H _ I h) fun us s1 ⟨vs, H1, J, rel, want⟩ => ⟨J.kIn, ?_⟩) he hp
  have want : sp (vs ++ []) H1 Q E0 := want
  rw [List.append_nil] at want
  have long : (us ++ []).length = ps.length := by
    rw [List.append_nil, ← rel.length]
    exact F.len _ _ _ _ want
  have bind := hb s1 us J.kIn long
  rw [List.append_nil] at bind
  refine wpAny_call (codeAny_mono (F.run X.A X.stack s1 H1 ⟨us, []⟩ us vs Q E0 guard room J.env0 bind rel want) fun r s' got => ?_)
  cases r with
  | error _ => exact False.elim got
  | ok fl =>
    cases fl with
    | ret u => exact J.after got
    | next => exact False.elim got
    | brk => exact False.elim got
    | cont => exact False.elim got
/-- repr of data -/
theorem call_reprD {X : Cx} (guard : X.A.guards = some []) {k : Nat} (room : Room k X.A) : CallR X (.builtin "repr") (fun xs H Q => ∃ v d, xs = [v] ∧ Dp X.K H v d ∧ isDisplay d = true ∧
    d.showable = true ∧ d.hasDict = false ∧ d.depth ≤ 60 ∧ d.shown.length ≤ sizeLine ∧ Q (.str d.shown) H) := by
  intro pins s σ H xs us Q I r ⟨v, d, e, dp, disp, sh, nd, dep, len, q⟩
  subst e
  obtain ⟨u, rfl, r1⟩ := vals1 r
  obtain ⟨as, rd⟩ := Dp.reads I d v u dp r1
  obtain ⟨a, rfl⟩ := isRef_of_reads rd disp
  exact repr_of_reads' rd sh (PyData.noDict_hsm nd) guard (by have := room.un; omega) (fun _ _ e => e)
    (fun h' u tk keep => ⟨.str _, H, I.kept keep, ⟨_, rfl⟩, q⟩) len
end LL
namespace LL
open PySem PySem.Spec PyProof.Rows L2
/-- what is tracked at a law's entry: the tables, and the script where it is no written thing -/
def entryH (T : List Addr) (K : PySem.W.Frag) (a : Addr) (scr : Obj) (ns : List Int) : Hp := fun b =>
  if b ∈ T then some (.tbl #[]) else if b = a ∧ K.lookup a = none then some (.frz scr (.lst (ns.map V.int))) else none
theorem entry_tab {T : List Addr} {K : PySem.W.Frag} {a b : Addr} {scr : Obj} {ns : List Int} (h : b ∈ T) : entryH T K a scr ns b = some (.tbl #[]) := if_pos h
theorem entry_cases {T : List Addr} {K : PySem.W.Frag} {a b : Addr} {scr : Obj} {ns : List Int} {u : HO} (h : entryH T K a scr ns b = some u) :
    (b ∈ T ∧ u = .tbl #[]) ∨ (b ∉ T ∧ b = a ∧ K.lookup a = none ∧ u = .frz scr (.lst (ns.map V.int))) := by
  unfold entryH at h
  by_cases m : b ∈ T
  · rw [if_pos m] at h
    exact Or.inl ⟨m, (Option.some.inj h).symm⟩
  · rw [if_neg m] at h
    by_cases q : b = a ∧ K.lookup a = none
    · rw [if_pos q] at h
      exact Or.inr ⟨m, q.1, q.2, (Option.some.inj h).symm⟩
    · rw [if_neg q] at h
      cases h
abbrev noTable : Obj := { cls := .none, data := .fields #[] }
theorem law_callG {P : Program} {w : World} {K : PySem.W.Frag} {mg mb : Str → Option Value} {k : Nat} {fa a : Addr} {cs : List (Addr × Addr)} {fd : FuncData} {x : Str} {sp : Sp} {s : Shared} {vals : List Value} {ns : List Int}
    (inK : K.In s.heap) (glob : s.heap.Ns mainGlobals mg) (blt : s.heap.Ns builtinsNs mb) (boot : ∀ y : Str, y ≠ "__name__" → mb y = bootBuiltins y) (free : s.heap.NoLimit) (noGen : s.gens = #[])
    (tabs : ∀ p ∈ cs, s.heap.get? p.2 = some noTable) (outK : ∀ p ∈ cs, K.lookup p.2 = none) (codes : ∀ p ∈ cs, PySem.W.CodeHd s.heap p.1 p.2)
    (main : ∃ (bm : Addr) (ob : Obj), mg "__builtins__" = some (.ref bm) ∧ bm ≠ builtinsNs ∧ s.heap.get? bm = some ob ∧ ob.cls = .type "module" ∧ ob.dict = some builtinsNs ∧ ob.data = .plain)
    (scr : s.heap.get? a = some { cls := .type "list", data := .seq vals.toArray }) (are : IntsAre vals ns) (few : ns.length ≤ sizeLine) (room : Room k callerA)
    (F : ∀ base : Heap, K.In base → base.Ns mainGlobals mg → (∀ p ∈ cs, GxR.TabB base mg p.1 p.2) → FnG P w K mg base k fa fd [x] sp)
    (bind : ∀ (s : Shared) (u : Value), BindsTo s fd ⟨[u], []⟩ [(x, u)])
    (ask : ∀ H : Hp, (∀ p ∈ cs, H p.2 = some (.tbl #[])) → SqL K H a (ns.map V.int) → sp [.ref a] H (fun v _ => v = .bl true) fun _ _ _ => False) :
    codeAny (model P w) callerA (.call (.ref fa) ⟨[.ref a], []⟩) (fun r s' => r = .ok (.ret (.bool true)) ∧ OldK s.heap s'.heap ∧ s'.os = s.os ∧ AllBare s'.gens) s := by
  let T : List Addr := cs.map (·.2)
  have tabAt : ∀ b, b ∈ T → s.heap.get? b = some noTable := fun b hb => by
    obtain ⟨p, hp, rfl⟩ := List.mem_map.mp hb
    exact tabs p hp
  have mem : ∀ p ∈ cs, p.2 ∈ T := fun p hp => List.mem_map_of_mem hp
  let H : Hp := entryH T K a { cls := .type "list", data := .seq vals.toArray } ns
  have aT : a ∉ T := fun z => by
    have q := tabAt a z
    rw [scr] at q
    have z' := congrArg Obj.data (Option.some.inj q)
    cases z'
  have rel := vals_ints are
  have seqA : SqL K H a (ns.map V.int) := by
    cases lk : K.lookup a with
    | some o =>
      have e := inK a o lk
      rw [scr] at e
      cases e
      exact .inr ⟨_, vals.toArray, _, lk, rfl, rfl, rfl, by rw [List.size_toArray, are.length]; exact few, by simpa using rel⟩
    | none =>
      refine .inl (.inr ⟨{ cls := .type "list", data := .seq vals.toArray }, ?_⟩)
      show entryH T K a _ ns a = _
      unfold entryH
      rw [if_neg aT, if_pos ⟨rfl, lk⟩]
  have ok : HOk P w H s.heap := fun b u e => by
    rcases entry_cases e with ⟨m, rfl⟩ | ⟨_, rfl, _, rfl⟩
    · exact tabAt b m
    · exact ⟨scr, by rw [List.length_map]; exact few, vals, _, rel, scr⟩
  -- what is of another kind isn't tracked
  have clear : ∀ {b : Addr} {o : Obj}, s.heap.get? b = some o → (∀ vs n, o.data ≠ .seq vs n) → o.data ≠ .fields #[] → H b = none := fun {b o} e n1 n2 => by
    cases q : H b with
    | none => rfl
    | some u =>
      rcases entry_cases q with ⟨m, _⟩ | ⟨_, rfl, _, _⟩
      · rw [tabAt b m] at e
        cases e
        exact absurd rfl n2
      · rw [scr] at e
        cases e
        exact absurd rfl (n1 _ _)
  have keepNs : ∀ {b : Addr} {m : Str → Option Value}, s.heap.Ns b m → (hidT s.heap H).Ns b m := fun {b m} ⟨o, es, ep, e, d, r⟩ => by
    refine ⟨o, es, ep, hidT_get e (clear e (fun vs n z => ?_) fun z => ?_), d, r⟩
    · rw [d] at z
      cases z
    · rw [d] at z
      cases z
  have inB : K.In (hidT s.heap H) := fun b o e => hidT_get (inK b o e) (by
    cases q : H b with
    | none => rfl
    | some u =>
      rcases entry_cases q with ⟨m, _⟩ | ⟨_, rfl, l, _⟩
      · obtain ⟨p, hp, rfl⟩ := List.mem_map.mp m
        rw [outK p hp] at e
        cases e
      · rw [l] at e
        cases e)
  have tabB : ∀ p ∈ cs, GxR.TabB (hidT s.heap H) mg p.1 p.2 := fun p hp => by
    have tp := tabs p hp
    refine ⟨?_, ?_, fun z => ?_⟩
    · obtain ⟨o, us, file, tf, fl, tg, inF, tx, tt, g1, g2, g3, g4, g5⟩ := codes p hp
      refine ⟨o, us, file, tf, fl, tg, inF, tx, tt, hidT_get g1 (clear g1 (fun vs n z => ?_) fun z => ?_), g2, g3, g4, g5⟩
      · rw [g3] at z
        cases z
      · rw [g3] at z
        cases z
        simp at g4
    · obtain ⟨bm, ob, b1, b2, b3, b4, b5, b6⟩ := main
      have nG : bm ≠ mainGlobals := fun q => by
        obtain ⟨o, es, ep, e, d, _⟩ := glob
        rw [q, e] at b3
        cases b3
        rw [d] at b6
        cases b6
      have nP : bm ≠ p.2 := fun q => by
        rw [q, tp] at b3
        cases b3
        cases b6
      refine ⟨bm, ob, b1, b2, nG, nP, hidT_get b3 (clear b3 (fun vs n z => ?_) fun z => ?_), b4, b5, b6⟩
      · rw [b6] at z
        cases z
      · rw [b6] at z
        cases z
    · obtain ⟨o, es, ep, e, d, _⟩ := glob
      rw [z, tp] at e
      cases e
      cases d
  have modB : L2.Mod K mg (hidT s.heap H) := ⟨inB, keepNs glob, ⟨mb, keepNs blt, boot⟩, by
    obtain ⟨mc, l1, l2⟩ := free
    exact ⟨mc, keepNs l1, l2⟩⟩
  have e0 : Env0 P w K mg (hidT s.heap H) callerA [] s H :=
    ⟨rfl, modB, fun b o e => of_hidT e, Nat.le_of_eq (hidT_size _ _), trivial, (fun b hb => absurd (show b ∈ ([] : List Addr) from hb) (by simp)), ok, .of_eq noGen⟩
  have run := (F _ inB (keepNs glob) tabB).run callerA [] s H ⟨[.ref a], []⟩ [.ref a] [.ref a] _ _ rfl room e0 (bind s (.ref a)) (.cons rfl .nil)
    (ask H (fun p hp => entry_tab (mem p hp)) seqA)
  refine codeAny_mono run fun r s' got => ?_
  cases r with
  | error _ => exact False.elim got
  | ok fl =>
    cases fl with
    | next => exact False.elim got
    | brk => exact False.elim got
    | cont => exact False.elim got
    | ret u =>
      obtain ⟨v, H', os, bare, un, ok', rv, q⟩ := got
      have qv : v = .bl true := q
      subst qv
      obtain rfl : u = Value.bool true := rv
      have grown : ∀ b, b ∈ T → ∃ more : Array Value, s'.heap.get? b = some { cls := .none, data := .fields more } := fun b hb => by
        obtain ⟨more, z⟩ := un.tbls b #[] (entry_tab hb)
        exact ⟨_, ok' b _ z⟩
      have stays : ∀ b o, b ∉ T → s.heap.get? b = some o → s'.heap.get? b = some o := fun b o n e => by
        cases q : H b with
        | none => exact un.keep b o e q (fun z => absurd (show b ∈ ([] : List Addr) from z) (by simp)) (by simp)
        | some u =>
          rcases entry_cases q with ⟨m, _⟩ | ⟨_, rfl, _, rfl⟩
          · exact absurd m n
          · obtain ⟨e2, _⟩ := ok' b _ (un.frzs b _ _ q)
            rw [scr] at e
            cases e
            exact e2
      refine ⟨rfl, ⟨fun b o e => ?_, fun b o e => ?_⟩, os, bare⟩
      · by_cases m : b ∈ T
        · obtain ⟨more, z⟩ := grown b m
          obtain ⟨p, hp, rfl⟩ := List.mem_map.mp m
          rw [tabs p hp] at e
          cases e
          exact .inr (.inl ⟨((codes p hp).tab (tabs p hp)).isCodeTable, rfl, #[], more, rfl, by rw [Array.empty_append]; exact z⟩)
        · exact .inl (stays b o m e)
      · by_cases m : b ∈ T
        · obtain ⟨more, z⟩ := grown b m
          exact ⟨_, z⟩
        · exact ⟨o, stays b o m e⟩
/-- what is to be known of a law's promise at its entry -/
def LawG (l : PySem.W.OpenLaw) (w : World) (K : PySem.W.Frag) (k n : Nat) (x : Str) (mg : Str → Option Value) (fa : Addr) (h : Heap) : Prop :=
  ∃ (fd : FuncData) (cs : List (Addr × Addr)) (sp : Sp), (∀ p ∈ cs, h.get? p.2 = some noTable) ∧ (∀ p ∈ cs, K.lookup p.2 = none) ∧ (∀ p ∈ cs, PySem.W.CodeHd h p.1 p.2) ∧
    (∀ (s : Shared) (u : Value), BindsTo s fd ⟨[u], []⟩ [(x, u)]) ∧
    (∀ (H : Hp) (a : Addr) (ns : List Int), ns.length ≤ n → (∀ p ∈ cs, H p.2 = some (.tbl #[])) → SqL K H a (ns.map V.int) → sp [.ref a] H (fun v _ => v = .bl true) fun _ _ _ => False) ∧
    ∀ base : Heap, K.In base → base.Ns mainGlobals mg → (∀ p ∈ cs, GxR.TabB base mg p.1 p.2) → FnG l.prog w K mg base k fa fd [x] sp
theorem walk_G {l : PySem.W.OpenLaw} {most lvl : Nat} {view : Program} {loose : List Str} {XP : (Str → Option Value) → Heap → Prop} {YP : World → Heap → Prop}
    {d : DefRec} {K : Params → PySem.W.Frag} {arg : Str}
    (h1 : l.most = some most) (h2 : most ≤ sizeLine) (h3 : d.params.defaults = []) (room : Room lvl callerA) (kIn : ∀ (w : World) (h : Heap), YP w h → (K w.params).In h)
    (F : ∀ (w : World) (mg : Str → Option Value) (fa : Addr) (h : Heap), YP w h → (K w.params).In h → h.Ns mainGlobals mg → mg d.name = some (.ref fa) →
      (∀ nm f, ((recsOf view).any fun r => r.name == nm) = true → mg nm = some (.ref f) → LamX.OwnTab (K w.params) f h) → LawG l w (K w.params) lvl most arg mg fa h) :
    PySem.W.WalkO view loose XP YP l.row.toRowW d [] (fun f vs => PySem.call f vs) := by
  refine Att.attach_callB h1 h3 fun w sa sb mg mb fa oL pm cd doc a vals nums gr yp hob hdata hrec hfa hscr hint hlen hbit hgen => ?_
  have inK := kIn w _ yp
  have tabs : ∀ nm f, ((recsOf view).any fun r => r.name == nm) = true → mg nm = some (.ref f) → LamX.OwnTab (K w.params) f sb.heap := fun nm f there hf cc TT ob ff ev di vv ss g1 g2 g3 g4 g5 => by
    obtain ⟨r, mem, same⟩ := List.any_eq_true.mp there
    have nmr : r.name = nm := beq_iff_eq.mp same
    obtain ⟨fb, ob', ff', cc', TT', i1, i2, i3, i4, _, i6⟩ := gr.T.tab r mem
    rw [nmr, hf] at i1
    cases i1
    rw [inK _ _ g1] at i2
    cases i2
    rw [g2] at i3
    cases i3
    rw [g3] at i4
    cases i4
    obtain ⟨⟨oc, vc, j1, _, j3, j4⟩, empty⟩ := i6
    rw [inK _ _ g4] at j1
    cases j1
    cases j3
    rw [g5] at j4
    cases j4
    exact empty
  obtain ⟨fd, cs, sp, t1, t2, t3, bind, ask, good⟩ := F w mg fa _ yp inK gr.T.g hfa tabs
  exact law_callG inK gr.T.g gr.T.b gr.T.builtins gr.T.nolimit hgen t1 t2 t3 gr.T.bmain hscr hint (Nat.le_trans hlen h2) room good bind
    (fun H q1 q2 => ask H a nums hlen q1 q2)
end LL
namespace LL
open PySem PySem.Spec PyProof.Rows L2
/-! ### all(elt for x in xs), xs a list, where elt may call defs -/
/-- where the element runs: a frame of its own over the def's -/
def gx (X : Cx) (cenv : Env) (N : List Str) (s : Shared) (H : Hp) (it : Addr) (A : Around) : Cx where
  prog := X.prog
  w := X.w
  K := X.K
  mg := X.mg
  base := X.base
  A := A
  N := N
  s_0 := s
  H_0 := H
  env := cenv
  outer := X.stack
  stack := cenv :: X.stack
  ex := [it]
  fn := fun _ => false
  calm := true
  pn := []
  xe := fun _ _ => False
theorem over_gen {A : Around} {elt : Expr} {gs : List Comprehension} {sc : Scope} {pos : Pos} {it acc : Value} {cenv : Env} :
    A.over (.compLoop (.GeneratorExp elt gs sc pos) 0 it acc cenv) [] = A.deeper cenv := by
  first
    | rfl
    | (obtain ⟨hd, d, fr, gs, u⟩ := A
       simp [Around.over, Around.deeper, marksOver, frameCount, unitsOf, envsOf, guardsOf, pushEnvs, pushGuards, Code.envs, Code.env?, Code.isFrame, Code.guards, Code.isGuard, Code.weight, Code.frames, Code.isCreation, Code.isCaller, Code.cUnits])
/-- same heap, other generators' states -/
theorem inv_gens {X : Cx} {pins : List (Addr × Obj)} {σ : L2.St} {H : Hp} {s s' : Shared} (I : Inv X pins σ H s) (hh : s'.heap = s.heap) (ho : s'.os = s.os) (hb : AllBare s'.gens) : Inv X pins σ H s' := by
  obtain ⟨h', g', d', t', o'⟩ := s'
  have e1 : h' = s.heap := hh
  have e2 : o' = s.os := ho
  subst e1
  subst e2
  exact I.step (g' := g') (d' := d') (t' := t') (ch := []) (fun _ z => nomatch z) (fun b o _ _ _ e _ => e) (fun b o _ _ _ e _ => ⟨o.slots, e⟩) (fun _ _ _ _ n => n)
    (fun b o _ e => ⟨o, e⟩) (fun _ _ e => e) (fun _ _ _ e => e) (fun b ps e => ⟨#[], by rw [e]; simp⟩) (fun _ z => z) I.hok hb
theorem clo_back {cells : List (Str × Addr)} {names : List (Str × NameKind)} (h : ∀ y ∈ names, y.2 = .free → ∃ c, cells.lookup y.1 = some c) {y : Str} {c : Addr}
    (e : (cloFrom cells names []).lookup y = some c) : cells.lookup y = some c := by
  rcases cloFrom_mem (PySem.mem_of_lookup e) with m | ⟨m, rfl⟩
  · cases m
  · obtain ⟨c', e'⟩ := h _ m rfl
    rw [e']
    rfl
section
variable {X : Cx} {pins : List (Addr × Obj)} {σ : L2.St} {H : Hp} {s : Shared}
/-- the start: in the state s the iterator is made, the code is there; then the frame and the generator are laid -/
theorem gen_start {scope : Scope} {x : Str} {cs : List (Str × Nat)} {cv : Value} {ia tk : Nat} {A : Around} {h1 h2 : Heap} {g2 : Array GenState} {m0 : Str → Option Value}
    (I : Inv X pins σ H s) (S : GxR.GenS X.env scope x)
    (caps : ∀ p ∈ cs, X.N[p.2]? = some p.1 ∧ X.env.scope.names.lookup p.1 = some .cell ∧ scope.names.lookup p.1 = some .free ∧
      ∀ q, X.env.cells.lookup p.1 = some q → (cloFrom X.env.cells scope.names []).lookup p.1 = some q)
    (hd : A.handled = none) (fr : A.frames = some (genEnv scope (cloFrom X.env.cells scope.names []) s.heap.objs.size cv builtinsNs X.env :: X.stack))
    (i1 : ia < s.heap.objs.size) (i2 : ∀ y c, X.env.cells.lookup y = some c → c ≠ ia) (i3 : ∀ b o, X.base.get? b = some o → b ≠ ia) (i4 : ia ∉ frs X.stack)
    (ns : h1.Ns s.heap.objs.size m0) (sb : Heap.SameBut s.heap.objs.size (s.heap.push { cls := .type "frame", data := .dict #[] }) h1)
    (keep : ∀ b o, h1.get? b = some o → h2.get? b = some o) (bare : AllBare g2) :
    Inv (gx X (genEnv scope (cloFrom X.env.cells scope.names []) s.heap.objs.size cv builtinsNs X.env) (x :: cs.map (·.1)) s H ia A) [] (none :: cs.map (fun p => σ.getD p.2 none)) H
      { s with heap := h2, gens := g2, toks := tk } := by
  have kp : ∀ b o, s.heap.get? b = some o → h2.get? b = some o := fun b o e =>
    keep b o (sb.extBut b o (Nat.ne_of_lt (Heap.lt_size e)) (Heap.get?_push_of_some _ e))
  have lt : ∀ y c, X.env.cells.lookup y = some c → c < s.heap.objs.size := fun y c e => by
    obtain ⟨v, z⟩ := I.cell y c e
    exact z.lt
  have back : ∀ {y : Str} {c : Addr}, (cloFrom X.env.cells scope.names []).lookup y = some c → X.env.cells.lookup y = some c := fun e => clo_back S.free e
  have okG : (gx X (genEnv scope (cloFrom X.env.cells scope.names []) s.heap.objs.size cv builtinsNs X.env) (x :: cs.map (·.1)) s H ia A).Ok := by
    refine ⟨I.ok.mod, S.kind, I.ok.glob, rfl, Nat.le_refl _, fun y z c e1 e2 => I.ok.inj y z c (back e1) (back e2), fun y hy => ?_, (fun y c z _ => absurd z (by simp [gx])), fun _ => hd, fr, .inr ⟨rfl, rfl⟩, fun b hb => ?_,
      I.bs, Nat.le_trans I.ok.bsz I.sz, fun b o e hb => ?_, fun b hb z => ?_, I.stack, I.stkFree⟩
    · have hk : scope.names.lookup y = some .free := by
        rcases hy with q | q
        · exact absurd rfl (S.cell _ (PySem.mem_of_lookup (show scope.names.lookup y = some .cell from q)))
        · exact q
      have hm : (y, NameKind.free) ∈ scope.names := PySem.mem_of_lookup hk
      obtain ⟨c, hc⟩ := mem_lookup (cloFrom_has (cells := X.env.cells) (acc := []) hm)
      exact ⟨c, hc⟩
    · have e : b = ia := by simpa [gx] using hb
      subst e
      exact ⟨Nat.ne_of_lt i1, fun y c e => i2 y c (back e)⟩
    · have e' : b = ia := by simpa [gx] using hb
      exact i3 b o e e'
    · have e : b = ia := by simpa [gx] using hb
      subst e
      exact i4 z
  refine ⟨okG, rfl, bare, Un.kept kp, ⟨m0, ?_, fun i y v e1 e2 e3 => ?_⟩, fun y c e => ?_, I.hok.fresh (Nat.le_refl _), fun y c e => I.freeC y c (back e), (fun p hp => absurd (show p ∈ ([] : List (Addr × Obj)) from hp) (by simp)), I.hok.kept kp, by simp [gx]⟩
  · obtain ⟨o, es, ep, e, r⟩ := ns
    exact ⟨o, es, ep, keep _ _ e, r⟩
  · cases i with
    | zero =>
      have e2 : (some (none : Option V)) = some (some v) := e2
      cases e2
    | succ j =>
      have e1 : (cs.map (·.1))[j]? = some y := e1
      have e2 : (cs.map (fun p => σ.getD p.2 none))[j]? = some (some v) := e2
      rw [List.getElem?_map] at e1 e2
      cases hp : cs[j]? with
      | none => rw [hp] at e1; cases e1
      | some p =>
        rw [hp] at e1 e2
        obtain rfl : p.1 = y := Option.some.inj e1
        have e2 : σ.getD p.2 none = some v := Option.some.inj e2
        obtain ⟨c1, c2, c3, c4⟩ := caps p (List.mem_of_getElem? hp)
        have e4 : σ[p.2]? = some (some v) := by
          rw [List.getD_eq_getElem?_getD] at e2
          cases q : σ[p.2]? with
          | none => rw [q] at e2; cases e2
          | some z => rw [q] at e2; exact congrArg some e2
        obtain ⟨m, _, look⟩ := I.loc
        obtain ⟨u, ru, lu⟩ := look p.2 p.1 v c1 e4 (.inr (.inl c2))
        refine ⟨u, ru, ?_⟩
        rcases lu with ⟨k1, _⟩ | ⟨_, q, q1, oq, q2, q3⟩
        · have k2 : X.env.scope.names.lookup p.1 = some .local := k1
          rw [c2] at k2
          cases k2
        · exact .inr ⟨.inr c3, q, c4 q q1, oq, kp _ _ q2, q3⟩
  · obtain ⟨v, o, e1, e2⟩ := I.cell y c (back e)
    exact ⟨v, o, kp _ _ e1, e2⟩
end
/-- a list or a tuple -/
def SqA (tp : Bool) (K : PySem.W.Frag) (H : Hp) (a : Addr) (xs : List V) : Prop := if tp = true then SqT K H a xs else SqL K H a xs
def itN (tp : Bool) : String := if tp = true then "tuple_iterator" else "list_iterator"
def ItO (tp : Bool) (yl : Addr) (i : Nat) (o : Obj) : Prop := o.cls = .type (itN tp) ∧ o.data = .fields #[.ref yl, .int i 0]
/-- an iterator's turn -/
theorem next_turn {tp : Bool} {X : Cx} {pins : List (Addr × Obj)} {σ : L2.St} {H : Hp} {s : Shared} {yl ia : Addr} {xs : List V} {i : Nat} {o : Obj} {v : V} {A : Around} {Q : Option Value → Shared → Prop} {E : Value → Shared → Prop}
    (I : Inv X pins σ H s) (hd : A.handled = none) (sq : SqA tp X.K H yl xs) (e : s.heap.get? ia = some o) (it : ItO tp yl i o) (hv : xs[i]? = some v)
    (h : ∀ u h1 tk o1, RelV v u → h1.get? ia = some o1 → ItO tp yl (i + 1) o1 → (∀ b o, b ≠ ia → s.heap.get? b = some o → h1.get? b = some o) → Q (some u) { s with heap := h1, toks := tk }) :
    wpAny (model X.prog X.w) A (pyNext (.ref ia)) Q E s := by
  have hlt : i < xs.length := (List.getElem?_eq_some_iff.mp hv).1
  obtain ⟨c, d⟩ := it
  cases tp with
  | false =>
    obtain ⟨its, rel, pl, _⟩ := I.list (show SqL X.K H yl xs from sq)
    have hlen : its.toArray.size = xs.length := by rw [List.size_toArray, ← rel.length]
    have ne : yl ≠ ia := fun z => by
      obtain ⟨o', e', c', _⟩ := pl.isList
      rw [z, e] at e'
      cases e'
      rw [c] at c'
      injection c' with c'
      exact absurd c' (by decide)
    refine (Walks.list hd ia yl ne its.toArray).item i s _ _ (by rw [hlen]; exact hlt) ⟨⟨o, e, c, d⟩, pl.isList⟩ fun u h1 tk hu st keep => ?_
    obtain ⟨o1, e1, r1⟩ := st.1
    obtain ⟨u', hu', r'⟩ := rel.get hv
    have hu2 : its.toArray[i]? = some u := hu
    rw [show its.toArray[i]? = some u' by simpa using hu'] at hu2
    cases hu2
    exact h _ h1 tk o1 r' e1 r1 fun b o hb q => keep b o (by simpa using hb) q
  | true =>
    obtain ⟨its, rel, pl, _⟩ := I.tuple (show SqT X.K H yl xs from sq)
    have hlen : its.toArray.size = xs.length := by rw [List.size_toArray, ← rel.length]
    have ne : yl ≠ ia := fun z => by
      obtain ⟨o', e', c', _⟩ := id pl
      rw [z, e] at e'
      cases e'
      rw [c] at c'
      injection c' with c'
      exact absurd c' (by decide)
    refine (Walks.tuple hd ia yl ne its.toArray).item i s _ _ (by rw [hlen]; exact hlt) ⟨⟨o, e, c, d⟩, pl⟩ fun u h1 tk hu st keep => ?_
    obtain ⟨o1, e1, r1⟩ := st.1
    obtain ⟨u', hu', r'⟩ := rel.get hv
    have hu2 : its.toArray[i]? = some u := hu
    rw [show its.toArray[i]? = some u' by simpa using hu'] at hu2
    cases hu2
    exact h _ h1 tk o1 r' e1 r1 fun b o hb q => keep b o (by simpa using hb) q
theorem next_end {tp : Bool} {X : Cx} {pins : List (Addr × Obj)} {σ : L2.St} {H : Hp} {s : Shared} {yl ia : Addr} {xs : List V} {o : Obj} {A : Around} {Q : Option Value → Shared → Prop} {E : Value → Shared → Prop}
    (I : Inv X pins σ H s) (hd : A.handled = none) (sq : SqA tp X.K H yl xs) (e : s.heap.get? ia = some o) (it : ItO tp yl xs.length o)
    (h : ∀ h1 tk, (∀ b o, b ≠ ia → s.heap.get? b = some o → h1.get? b = some o) → Q none { s with heap := h1, toks := tk }) :
    wpAny (model X.prog X.w) A (pyNext (.ref ia)) Q E s := by
  obtain ⟨c, d⟩ := it
  cases tp with
  | false =>
    obtain ⟨its, rel, pl, _⟩ := I.list (show SqL X.K H yl xs from sq)
    have hlen : its.toArray.size = xs.length := by rw [List.size_toArray, ← rel.length]
    have ne : yl ≠ ia := fun z => by
      obtain ⟨o', e', c', _⟩ := pl.isList
      rw [z, e] at e'
      cases e'
      rw [c] at c'
      injection c' with c'
      exact absurd c' (by decide)
    exact (Walks.list hd ia yl ne its.toArray).done s _ _ ⟨by rw [hlen]; exact ⟨o, e, c, d⟩, pl.isList⟩ fun h1 tk keep => h h1 tk fun b o hb q => keep b o (by simpa using hb) q
  | true =>
    obtain ⟨its, rel, pl, _⟩ := I.tuple (show SqT X.K H yl xs from sq)
    have hlen : its.toArray.size = xs.length := by rw [List.size_toArray, ← rel.length]
    have ne : yl ≠ ia := fun z => by
      obtain ⟨o', e', c', _⟩ := id pl
      rw [z, e] at e'
      cases e'
      rw [c] at c'
      injection c' with c'
      exact absurd c' (by decide)
    exact (Walks.tuple hd ia yl ne its.toArray).done s _ _ ⟨by rw [hlen]; exact ⟨o, e, c, d⟩, pl⟩ fun h1 tk keep => h h1 tk fun b o hb q => keep b o (by simpa using hb) q

/-- between two turns: i things were asked, each of them is so -/
def GS (X : Cx) (ga : Addr) (go : Obj) (ia : Addr) (It : Nat → Obj → Prop) (σ0 : L2.St) (g : Nat) (Pv : Nat → Hp → Prop) (i : Nat) (s : Shared) : Prop :=
  ∃ H, Inv X [(ga, go)] σ0 H s ∧ H ia = none ∧ (∃ o, s.heap.get? ia = some o ∧ It i o) ∧ g < s.gens.size ∧ Pv i H
/-- what is told when one thing was asked -/
def GY (X : Cx) (ga : Addr) (go : Obj) (ia : Addr) (It : Nat → Obj → Prop) (σ0 : L2.St) (g : Nat) (Pv : Nat → Hp → Prop) (Qf : Hp → Prop) (n : Nat) : Protocol := fun m _ v s kap =>
  g < s.gens.size ∧ ∃ b : Bool, v = .bool b ∧ (if b = true then ∃ i, i + m = n ∧ GS X ga go ia It σ0 g Pv i s ∧
      ∀ s'' : Shared, s''.heap = s.heap → s''.os = s.os → AllBare s''.gens → g < s''.gens.size → kap (.send .none) s''
    else ∃ H, Inv X [(ga, go)] σ0 H s ∧ Qf H)
def GR (X : Cx) (ga : Addr) (go : Obj) (σ0 : L2.St) (g : Nat) (Pv : Nat → Hp → Prop) (n : Nat) (m : Nat) (s : Shared) : Prop :=
  m = 0 ∧ ∃ H, Inv X [(ga, go)] σ0 H s ∧ g < s.gens.size ∧ Pv n H
section
variable {tp : Bool} {X : Cx} {ga ia yl : Addr} {go : Obj} {σ0 : L2.St} {g : Nat} {Pv : Nat → Hp → Prop} {Qf : Hp → Prop} {xs : List V} {te : TE}
theorem GS.gens {It : Nat → Obj → Prop} {i : Nat} {s s' : Shared} (h : GS X ga go ia It σ0 g Pv i s) (hh : s'.heap = s.heap) (ho : s'.os = s.os) (hb : AllBare s'.gens) (hg : g < s'.gens.size) : GS X ga go ia It σ0 g Pv i s' := by
  obtain ⟨H, I, n, it, _, p⟩ := h
  exact ⟨H, inv_gens I hh ho hb, n, by rw [hh]; exact it, hg, p⟩
theorem pinNe {H : Hp} {s : Shared} {i : Nat} {o : Obj} (I : Inv X [(ga, go)] σ0 H s) (e' : s.heap.get? ia = some o) (it : ItO tp yl i o) (isGen : go.cls = .type "generator") (hpn : X.pn = []) :
    ∀ q ∈ X.pn ++ [(ga, go)], q.1 ≠ ia := by
  intro q hq
  rw [hpn, List.nil_append] at hq
  obtain rfl := List.mem_singleton.mp hq
  intro z
  obtain ⟨e, _⟩ := I.pin (ga, go) (List.mem_append_right _ (List.mem_singleton.mpr rfl))
  obtain ⟨c, _⟩ := it
  have z : ga = ia := z
  have e : s.heap.get? ga = some go := e
  rw [z, e'] at e
  cases e
  rw [isGen] at c
  injection c with c
  cases tp <;> exact absurd c (by decide)
theorem gl_loop {B : Around} {elt iter : Expr} {x : Str} {px pos : Pos} {scope : Scope} (hA : X.A = B.deeper X.env) (hd : B.handled = none)
    (isGen : go.cls = .type "generator") (hpn : X.pn = []) (hia : ia ∈ X.ex) (hN : X.N.Nodup) (h0 : X.N[0]? = some x) (hl : X.env.scope.names.lookup x = some .local) (hco : X.env.scope.isCoroutine = false)
    (hσ : σ0[0]? = some none) (hel : PE X elt te) (xe : ∀ e s, X.xe e s → False)
    (list_ : ∀ i H, Pv i H → SqA tp X.K H yl xs) (step : ∀ i v H, xs[i]? = some v → Pv i H → te (σ0.set 0 (some v)) H fun y H' => ∃ b, y = .bl b ∧ if b = true then Pv (i + 1) H' else Qf H') :
    ∀ (r i : Nat) (s0 s : Shared), xs.length - i = r → i ≤ xs.length → GS X ga go ia (ItO tp yl) σ0 g Pv i s →
      Seg (model X.prog X.w) B (fun m _ q s1 => q = .ok .next ∧ GR X ga go σ0 g Pv xs.length m s1) (GY X ga go ia (ItO tp yl) σ0 g Pv Qf xs.length) r s0
        (.compLoop (.GeneratorExp elt [⟨.Name x px, iter, [], 0⟩] scope pos) 0 (.ref ia) .none X.env)
        ((model X.prog X.w).den (.compLoop (.GeneratorExp elt [⟨.Name x px, iter, [], 0⟩] scope pos) 0 (.ref ia) .none X.env)) [] s := by
  have over : B.over (.compLoop (.GeneratorExp elt [⟨.Name x px, iter, [], 0⟩] scope pos) 0 (.ref ia) .none X.env) [] = X.A := by rw [over_gen, hA]
  have hd' : X.A.handled = none := by rw [hA]; exact hd
  intro r
  induction r with
  | zero =>
    intro i s0 s hr hi ⟨H, I, na, ⟨oi, ei, it⟩, hg, p⟩
    have hin : i = xs.length := by omega
    subst hin
    obtain ⟨exL, exC⟩ := I.ok.exf ia hia
    show Seg _ B _ _ _ s0 _ ((compTurn (.GeneratorExp elt [⟨.Name x px, iter, [], 0⟩] scope pos) 0 (.ref ia) .none X.env).onRaise (leaving X.env)) [] s
    rw [compTurn_gen, Sem.onRaise_eq_wrap]
    refine seg_bind_wrap (wpAny_standAt ?_)
    refine seg_bind_wrap ?_
    rw [over]
    refine next_end I hd' (list_ _ _ p) ei it fun h' tk keep => ?_
    have I2 := I.turned (t' := tk) keep na exL (.inl hia) exC (pinNe I ei it isGen hpn)
    exact seg_end (.ok .next) ⟨rfl, by omega, H, I2, hg, p⟩
  | succ r ih =>
    intro i s0 s hr hi ⟨H, I, na, ⟨oj, ej, it⟩, hg, p⟩
    have hlt : i < xs.length := by omega
    obtain ⟨exL, exC⟩ := I.ok.exf ia hia
    have exF := I.ok.exfs ia hia
    show Seg _ B _ _ _ s0 _ ((compTurn (.GeneratorExp elt [⟨.Name x px, iter, [], 0⟩] scope pos) 0 (.ref ia) .none X.env).onRaise (leaving X.env)) [] s
    rw [compTurn_gen, Sem.onRaise_eq_wrap]
    refine seg_bind_wrap (wpAny_standAt ?_)
    obtain ⟨v, hv⟩ : ∃ v, xs[i]? = some v := ⟨xs[i], List.getElem?_eq_getElem hlt⟩
    refine seg_bind_wrap ?_
    rw [over]
    refine next_turn I hd' (list_ _ _ p) ej it hv fun u h1 tk oi ru e1 itn keep => ?_
    have I1 := I.turned (t' := tk) keep na exL (.inl hia) exC (pinNe I ej it isGen hpn)
    have I1p : Inv X [(ga, go), (ia, oi)] σ0 H { s with heap := h1, toks := tk } := I1.pins_of fun q hq => by
      rcases List.mem_cons.mp hq with rfl | hq
      · exact I1.pin (ga, go) (List.mem_append_right _ (List.mem_singleton.mpr rfl))
      · obtain rfl := List.mem_singleton.mp hq
        exact ⟨e1, na, exL, exF, fun v z => by
          have z : oi.data = .cell v := z
          rw [itn.2] at z
          cases z⟩
    refine seg_bind_wrap (wpAny_of_eq (rfl : letOwnedTupleGo (.Name x px) (.ref ia) u = pure ()) ?_)
    refine seg_bind_wrap ?_
    rw [over]
    refine GenW.wpAny_gsz (n := g + 1) hg ?_
    refine wpAny_assign_Name (store_ok I1p hN h0 (.inl hl) ru (fun s2 I2 hg2 => ?_) (.inr hl))
    simp only [List.forIn_nil]
    refine seg_bind_wrap (wpAny_pure ?_)
    simp only [if_true]
    have hy : ∀ v, yieldOut X.env v = yieldValue v := fun v => by simp only [yieldOut, hco, Bool.false_eq_true, if_false]
    simp only [hy]
    rw [Sem.bind_eq_wrap', Sem.bind_eq_wrap', Sem.wrap_wrap, Sem.wrap_wrap]
    refine seg_wrap ?_
    rw [over]
    refine GenW.wpAny_gsz (n := g + 1) hg2 ?_
    refine wpAny_mono (hel.run _ s2 _ H _ I2 (step i v H hv p)) (fun y s3 got hg3 => ?_) (fun e s3 z _ => (xe e s3 z).elim)
    obtain ⟨yv, H3, I3, ry, b, rfl, q⟩ := got
    obtain rfl : y = Value.bool b := ry
    have I4 : Inv X [(ga, go), (ia, oi)] σ0 H3 s3 := I3.weak (by rw [List.length_set]) fun j z hz => by
      cases j with
      | zero =>
        rw [hσ] at hz
        cases hz
      | succ j =>
        rw [List.getElem?_set_ne (by omega)]
        exact hz
    obtain ⟨p1, p2, _⟩ := I4.pin (ia, oi) (List.mem_append_right _ (List.mem_cons_of_mem _ List.mem_cons_self))
    have I5 : Inv X [(ga, go)] σ0 H3 s3 := I4.pins_of fun q hq => by
      obtain rfl := List.mem_singleton.mp hq
      exact I4.pin (ga, go) (List.mem_append_right _ List.mem_cons_self)
    refine seg_at (seg_yield rfl rfl rfl ⟨hg3, b, rfl, ?_⟩)
    cases b with
    | false =>
      rw [if_neg Bool.false_ne_true] at q ⊢
      exact ⟨H3, I5, q⟩
    | true =>
      rw [if_pos rfl] at q ⊢
      have gs : GS X ga go ia (ItO tp yl) σ0 g Pv (i + 1) s3 := ⟨H3, I5, p2, ⟨oi, p1, itn⟩, hg3, q⟩
      exact ⟨i + 1, by omega, gs, fun s4 z1 z2 z3 z4 => seg_again rfl (ih (i + 1) s4 s4 (by omega) (by omega) (gs.gens z1 z2 z3 z4))⟩
theorem bare_set {s : Shared} {g : Nat} {y : GenState} (h : AllBare s.gens) (hy : y.bare = true) : AllBare (s.setGen g y).gens := by
  intro z hz
  have hz : z ∈ s.gens.setIfInBounds g y := hz
  rcases Array.mem_or_eq_of_mem_setIfInBounds hz with m | rfl
  · exact h z m
  · exact hy
theorem size_set {s : Shared} {g : Nat} {y : GenState} : (s.setGen g y).gens.size = s.gens.size := by simp [Shared.setGen]
/-- all over such a generator -/
theorem gl_all {A B : Around} {Rr : Result → Shared → Prop} (hd : A.handled = none) (hB : B = A.in1.in1) (depth : A.depth < recursionLimit) (isG : ∀ h : Heap, h.get? ga = some go → h.IsGen ga g)
    (fin : ∀ b s' H, Inv X [(ga, go)] σ0 H s' → (if b = true then Pv xs.length H else Qf H) → Rr (.ok (.ret (.bool b))) s') :
    ∀ (m i : Nat) (s : Shared) (gs : GenState), i + m = xs.length → GS X ga go ia (ItO tp yl) σ0 g Pv i s → s.gens[g]? = some gs →
      (∀ s'' : Shared, s''.heap = s.heap → s''.os = s.os → AllBare s''.gens → g < s''.gens.size →
        gs.Goes (model X.prog X.w) B (fun m _ q s1 => q = .ok .next ∧ GR X ga go σ0 g Pv xs.length m s1) (GY X ga go ia (ItO tp yl) σ0 g Pv Qf xs.length) m (.send .none) s'') →
      codeAny (model X.prog X.w) A (.builtin "all.loop" ⟨[.ref ga], []⟩) Rr s := by
  intro m
  induction m with
  | zero =>
    intro i s gs him st hgs goes
    obtain ⟨H, I, na, it, hg, p⟩ := id st
    obtain ⟨pg, _⟩ := I.pin (ga, go) (List.mem_append_right _ (List.mem_singleton.mpr rfl))
    refine codeAny_builtin F.entry_all_loop ?_
    rw [Around.under_plainId F.plain_all_loop _]
    show wpAny _ A.in1 (pyNext (.ref ga) >>= _) _ _ s
    refine wpAny_bind ?_
    subst hB
    refine wpAny_pyNext_genexpQ (P := fun m _ s1 => GR X ga go σ0 g Pv xs.length m s1) hd I.nolimit depth (isG _ pg) hgs (goes _ rfl rfl (bare_set I.bare rfl) (by rw [size_set]; exact hg)) (fun v s1 gs' bare' got => ?_) (fun s1 got h' keep => ?_)
    · obtain ⟨hg1, b, rfl, q⟩ := got
      cases b with
      | false =>
        rw [if_neg Bool.false_ne_true] at q
        obtain ⟨H1, I1, q⟩ := q
        refine wpAny_bind (wpAny_holding (wpAny_truthy_bool ?_))
        refine wpAny_bind (wpAny_letGo ?_)
        simp only [Bool.false_eq_true, if_false]
        refine wpAny_bind (wpAny_rule (wpAny_pure ?_))
        exact fin false _ H1 (inv_gens I1 rfl rfl (bare_set I1.bare bare')) (by rw [if_neg Bool.false_ne_true]; exact q)
      | true =>
        rw [if_pos rfl] at q
        obtain ⟨j, hj, ⟨_, I1, _⟩, kap⟩ := q
        exact (kap s1 rfl rfl I1.bare hg1).elim
    · obtain ⟨_, H1, I1, hg1, q⟩ := got
      refine wpAny_bind (wpAny_rule (wpAny_pure ?_))
      have I2 := I1.kept (t' := s1.toks) keep
      exact fin true _ H1 (inv_gens I2 rfl rfl (bare_set I1.bare rfl)) (by rw [if_pos rfl]; exact q)
  | succ m ih =>
    intro i s gs him st hgs goes
    obtain ⟨H, I, na, it, hg, p⟩ := id st
    obtain ⟨pg, _⟩ := I.pin (ga, go) (List.mem_append_right _ (List.mem_singleton.mpr rfl))
    refine codeAny_builtin F.entry_all_loop ?_
    rw [Around.under_plainId F.plain_all_loop _]
    show wpAny _ A.in1 (pyNext (.ref ga) >>= _) _ _ s
    refine wpAny_bind ?_
    subst hB
    refine wpAny_pyNext_genexpQ (P := fun m _ s1 => GR X ga go σ0 g Pv xs.length m s1) hd I.nolimit depth (isG _ pg) hgs (goes _ rfl rfl (bare_set I.bare rfl) (by rw [size_set]; exact hg)) (fun v s1 gs' bare' got => ?_) (fun s1 got h' keep => ?_)
    · obtain ⟨hg1, b, rfl, q⟩ := got
      refine wpAny_bind (wpAny_holding (wpAny_truthy_bool ?_))
      refine wpAny_bind (wpAny_letGo ?_)
      cases b with
      | false =>
        rw [if_neg Bool.false_ne_true] at q
        obtain ⟨H1, I1, q⟩ := q
        simp only [Bool.false_eq_true, if_false]
        refine wpAny_bind (wpAny_rule (wpAny_pure ?_))
        exact fin false _ H1 (inv_gens I1 rfl rfl (bare_set I1.bare bare')) (by rw [if_neg Bool.false_ne_true]; exact q)
      | true =>
        rw [if_pos rfl] at q
        obtain ⟨j, hj, st1, kap⟩ := q
        simp only [if_true]
        have bare1 : AllBare s1.gens := by
          obtain ⟨_, I1, _⟩ := st1
          exact I1.bare
        have jm : j + m = xs.length := by omega
        refine wpAny_pure ⟨plainId_quiet F.plain_all_loop _, ih j _ gs' jm (st1.gens rfl rfl (bare_set bare1 bare') (by rw [size_set]; exact hg1)) (by simp [Shared.setGen, hg1]) fun s2 z1 z2 z3 z4 => ?_⟩
        exact kap s2 z1 z2 z3 z4
    · obtain ⟨z, _⟩ := got
      exact absurd z (Nat.succ_ne_zero m)
theorem gl_start {B : Around} {elt iter : Expr} {x : Str} {px pos : Pos} {scope : Scope} {n : Nat} {s0 s : Shared} {R : GenEnd} {Y : Protocol} (hd : B.handled = none) {i : Nat} (it : ∃ o, s.heap.get? ia = some o ∧ ItO tp yl i o)
    (loop : Seg (model X.prog X.w) B R Y n s0 (.compLoop (.GeneratorExp elt [⟨.Name x px, iter, [], 0⟩] scope pos) 0 (.ref ia) .none X.env)
        ((model X.prog X.w).den (.compLoop (.GeneratorExp elt [⟨.Name x px, iter, [], 0⟩] scope pos) 0 (.ref ia) .none X.env)) [] s) :
    Seg (model X.prog X.w) B R Y n s0 (.compStart (.GeneratorExp elt [⟨.Name x px, iter, [], 0⟩] scope pos) 0 (.ref ia) .none X.env)
      ((model X.prog X.w).den (.compStart (.GeneratorExp elt [⟨.Name x px, iter, [], 0⟩] scope pos) 0 (.ref ia) .none X.env)) [] s := by
  have self : ∀ (A : Around) (Q : Value → Shared → Prop) (E : Value → Shared → Prop), Q (.ref ia) s → wpAny (model X.prog X.w) A (pyIter (.ref ia)) Q E s := fun A Q E h => by
    obtain ⟨o, e, c, d⟩ := it
    cases tp with
    | false => exact wpAny_pyIter_listiter ⟨o, e, c, d⟩ h
    | true => exact wpAny_pyIter_tupleiter ⟨o, e, c, d⟩ h
  show Seg _ B _ _ _ s0 _ ((compStart (.GeneratorExp elt [⟨.Name x px, iter, [], 0⟩] scope pos) 0 (.ref ia) .none X.env).onRaise (leaving X.env)) [] s
  unfold compStart
  rw [Sem.onRaise_eq_wrap]
  show Seg _ B _ _ _ s0 _ ((ask >>= _).wrap _ _ _ _) [] s
  refine seg_bind_wrap (wpAny_askSetting ?_)
  split
  · exact seg_again rfl loop
  · first
      | exact seg_bind_wrap (wpAny_rule (seg_bind_wrap (wpAny_standAt (seg_bind_wrap (self _ _ _ (seg_again rfl loop))))))
      | (refine seg_bind_wrap (wpAny_rule ?_)
         exact seg_bind_wrap (wpAny_standAt (seg_bind_wrap (self _ _ _ (seg_again rfl loop)))))
end
/-- all(elt for x in e), e a list or a tuple -/
def tAllL (tp : Bool) (K : PySem.W.Frag) (P : Addr) (cs : List (Str × Nat)) (tl te : TE) : TE := fun σ H Q => tl σ H fun v H1 => ∃ (a : Addr) (xs : List V), v = .ref a ∧ SqA tp K H1 a xs ∧ GxR.TabG H1 P ∧
  ∃ Pv : Nat → Hp → Prop, (∀ H2, GxR.Tabbed P H1 H2 → Pv 0 H2) ∧ (∀ i H, Pv i H → SqA tp K H a xs) ∧
    (∀ i v H, xs[i]? = some v → Pv i H → te (some v :: cs.map (fun p => σ.getD p.2 none)) H fun y H' => ∃ b, y = .bl b ∧ if b = true then Pv (i + 1) H' else Q (.bl false) H') ∧
    ∀ H, Pv xs.length H → Q (.bl true) H
theorem iter_of {tp : Bool} {X : Cx} {pins : List (Addr × Obj)} {σ : L2.St} {H : Hp} {s : Shared} {a : Addr} {xs : List V} {A : Around} {Q : Value → Shared → Prop} {E : Value → Shared → Prop}
    (I : Inv X pins σ H s) (sq : SqA tp X.K H a xs) (h : Q (.ref s.heap.objs.size) { s with heap := s.heap.push { cls := .type (itN tp), data := .fields #[.ref a, .int 0 0] } }) :
    wpAny (model X.prog X.w) A (pyIter (.ref a)) Q E s := by
  cases tp with
  | false =>
    obtain ⟨its, _, pl, _⟩ := I.list (show SqL X.K H a xs from sq)
    exact wpAny_pyIter_list pl.isList h
  | true =>
    obtain ⟨its, _, pl, _⟩ := I.tuple (show SqT X.K H a xs from sq)
    exact wpAny_pyIter_tuple pl h
theorem pe_allL (tp : Bool) {X : Cx} {c P : Addr} {elt iter : Expr} {x : Str} {px p pos gpos : Pos} {scope : Scope} (cs : List (Str × Nat)) {tl te : TE} {k : Nat}
    (room : Room (k + 3) X.A) (hg : Gl X "all") (hm : X.mg "all" = none) (hb : bootBuiltins "all" = some (.builtin "all")) (tabB : GxR.TabB X.base X.mg c P) (code_ : X.env.code = .ref c)
    (S : GxR.GenS X.env scope x) (it_ : PE X iter tl) (nd : (x :: cs.map (·.1)).Nodup)
    (caps : ∀ q ∈ cs, X.N[q.2]? = some q.1 ∧ X.env.scope.names.lookup q.1 = some .cell ∧ scope.names.lookup q.1 = some .free ∧
      ∀ b, X.env.cells.lookup q.1 = some b → (cloFrom X.env.cells scope.names []).lookup q.1 = some b)
    (el_ : ∀ (cv : Value) (s : Shared) (H : Hp) (ia : Addr) (A : Around), Room k A →
      PE (gx X (genEnv scope (cloFrom X.env.cells scope.names []) s.heap.objs.size cv builtinsNs X.env) (x :: cs.map (·.1)) s H ia A) elt te)
    (fold_ : ∀ v, genFold iter X.env v = pure v)
    (he : starEach [.GeneratorExp elt [⟨.Name x px, iter, [], 0⟩] scope gpos] X.env =
      (false, eval (.GeneratorExp elt [⟨.Name x px, iter, [], 0⟩] scope gpos) X.env) :: starEach [] X.env := by rfl) :
    PE X (.Call (.Name "all" p) [.GeneratorExp elt [⟨.Name x px, iter, [], 0⟩] scope gpos] [] pos) (tAllL tp X.K P cs tl te) := by
  refine ⟨fun pins s σ H Q I h => ?_⟩
  refine wpAny_Call_Name_kw (ld_blt I hg hm hb ?_)
  refine PyProof.Rows.callWith_builtin1 ?_ he (by rfl)
  rw [he]
  refine (show wpAny _ _ (spliced ((false, eval (.GeneratorExp elt [⟨.Name x px, iter, [], 0⟩] scope gpos) X.env) ::
    backTo pos (starEach [] X.env))) _ _ s from ?_)
  refine Calls.spliced_cons ?_
  refine wpAny_GeneratorExp_make S.co (closure_ok S.free) S.cell S.dot S.kind (by have := room.dp; omega) ?_ fold_
  refine thn (it_.run pins s σ H _ I h) fun vx r1 ⟨v, H1, J, rel, want⟩ => ?_
  obtain ⟨a, xs, rfl, sq, ⟨tb, hTP, htri⟩, Pv, p0, pl, step, fin⟩ := want
  obtain rfl : vx = Value.ref a := rel
  refine iter_of J sq ?_
  have tabS : r1.heap.get? P = some { cls := .none, data := .fields tb } := J.hok P _ hTP
  have ltP : P < r1.heap.objs.size := Heap.lt_size tabS
  generalize hob : ({ cls := .type (itN tp), data := .fields #[.ref a, .int 0 0] } : Obj) = ob
  have tabN : (r1.heap.push ob).get? P = some { cls := .none, data := .fields tb } := Heap.get?_push_of_some _ tabS
  have hdN : PySem.W.CodeHd (r1.heap.push ob) c P := tabB.code.keeps fun b' u' e' => Heap.get?_push_of_some _ (J.bk b' u' e')
  have limN : (r1.heap.push ob).NoLimit := J.nolimit.push ob
  have obN : (r1.heap.push ob).get? r1.heap.objs.size = some ob := Heap.get?_push_size _ (by rw [← hob]; rfl)
  refine ⟨limN, ?_⟩
  have szN : (r1.heap.push ob).objs.size = r1.heap.objs.size + 1 := Heap.size_push ..
  have onward : ∀ (cv : Value) (h3 : Heap) (n3 : Nat) (tb' : Array Value), Heap.ExtBut P (r1.heap.push ob) h3 →
      (r1.heap.push ob).objs.size ≤ h3.objs.size → h3.get? P = some { cls := .none, data := .fields tb' } →
      (∃ more, tb' = tb ++ more) → TriplesOk tb'.toList →
      wpAny (model X.prog X.w) X.A (builtinsFor X.env.globals X.env.builtins) (fun bi s4 =>
        ∀ h', h'.Ns s4.heap.objs.size (fun y => if y = ".0" then some (.ref r1.heap.objs.size) else none) → Heap.SameBut s4.heap.objs.size (s4.heap.push { cls := .type "frame", data := .dict #[] }) h' →
          wpAny (model X.prog X.w) X.A (spliced (backTo pos (starEach [] X.env))) (fun vs s6 => wpAny (model X.prog X.w) X.A (call (.builtin "all") (.ref h'.objs.size :: vs)) (EP X pins σ Q) X.xe s6) X.xe
            { s4 with
              gens := s4.gens.push (.fresh (.compStart (.GeneratorExp elt [⟨.Name x px, iter, [], 0⟩] scope gpos) 0 (.ref r1.heap.objs.size) .none (genEnv scope (cloFrom X.env.cells scope.names []) s4.heap.objs.size cv bi X.env))),
              toks := s4.toks + 1 + 1 + 1,
              heap := h'.push { cls := .type "generator", data := .fields #[.int s4.gens.size 0, .str "<genexpr>" (s4.toks + 1), .str (X.env.qual ++ "<genexpr>") (s4.toks + 1 + 1)] } }) X.xe
        { r1 with heap := h3, toks := n3 } := by
    intro cv h3 n3 tb' ext sz3 tab3 grew tri3
    obtain ⟨bm, mo, f1, f2, f3, f4, f5, f6, f7, f8⟩ := tabB.bm
    have old3 : ∀ b' u', b' ≠ P → r1.heap.get? b' = some u' → h3.get? b' = some u' := fun b' u' ne e' => ext b' u' ne (Heap.get?_push_of_some _ e')
    refine wpAny_builtinsFor (m := X.mg) (by rw [J.ok.glob]; exact ((J.mod.glob.keeps J.bk).push ob).extBut ext tabB.gP) f1 f2 (old3 _ _ f4 (J.bk _ _ f5)) f6 f7 f8 ?_
    intro h' ns sb
    obtain ⟨more, em⟩ := grew
    have J4 := GxR.inv_tab (more := more) (h' := h3) (g' := r1.gens) (d' := r1.drawn) (t' := n3) J hTP old3 (by rw [← em]; exact tab3) J.bare
    generalize hH2 : upd H1 P (.tbl (tb ++ more)) = H2 at J4
    have tbd : GxR.Tabbed P H1 H2 := by
      rw [← hH2]
      exact ⟨⟨tb ++ more, upd_same, by rw [← em]; exact tri3⟩, fun b' ne => upd_ne ne⟩
    generalize hgo : ({ cls := .type "generator", data := .fields #[.int r1.gens.size 0, .str "<genexpr>" (n3 + 1), .str (X.env.qual ++ "<genexpr>") (n3 + 1 + 1)] } : Obj) = go
    have i1 : r1.heap.objs.size < h3.objs.size := Nat.lt_of_lt_of_le (by rw [szN]; exact Nat.lt_succ_self _) sz3
    have ia3 : h3.get? r1.heap.objs.size = some ob := ext _ _ (Nat.ne_of_gt ltP) obN
    have ia' : h'.get? r1.heap.objs.size = some ob := sb.extBut _ _ (Nat.ne_of_lt i1) (Heap.get?_push_of_some _ ia3)
    have i2 : ∀ y b, X.env.cells.lookup y = some b → b ≠ r1.heap.objs.size := fun y b e => by
      obtain ⟨v, z⟩ := J.cell y b e
      exact Nat.ne_of_lt z.lt
    have i3 : ∀ b o, X.base.get? b = some o → b ≠ r1.heap.objs.size := fun b o e => Nat.ne_of_lt (Heap.lt_size (J.bk b o e))
    have i4 : r1.heap.objs.size ∉ frs X.stack := fun z => by
      obtain ⟨_, o, ho, _⟩ := J.stack.mem z
      exact absurd (Heap.lt_size ho) (Nat.lt_irrefl _)
    have I0 := gen_start (cs := cs) (cv := cv) (ia := r1.heap.objs.size) (A := X.A.in1.in1.deeper (genEnv scope (cloFrom X.env.cells scope.names []) h3.objs.size cv builtinsNs X.env))
      (tk := n3 + 1 + 1 + 1) (h2 := h'.push go) (g2 := r1.gens.push (.fresh (.compStart (.GeneratorExp elt [⟨.Name x px, iter, [], 0⟩] scope gpos) 0 (.ref r1.heap.objs.size) .none (genEnv scope (cloFrom X.env.cells scope.names []) h3.objs.size cv builtinsNs X.env))))
      J4 S caps room.hd (by simp [Around.deeper, Around.in1, J4.ok.frames]) i1 i2 i3 i4 ns sb (fun b o e => Heap.get?_push_of_some _ e) (J.bare.push rfl)
    have hel := el_ cv { r1 with heap := h3, toks := n3 } H2 r1.heap.objs.size (X.A.in1.in1.deeper (genEnv scope (cloFrom X.env.cells scope.names []) h3.objs.size cv builtinsNs X.env)) (room.in1.in1.deeper _)
    generalize hY : gx X (genEnv scope (cloFrom X.env.cells scope.names []) h3.objs.size cv builtinsNs X.env) (x :: cs.map (·.1)) { r1 with heap := h3, toks := n3 } H2 r1.heap.objs.size (X.A.in1.in1.deeper (genEnv scope (cloFrom X.env.cells scope.names []) h3.objs.size cv builtinsNs X.env)) = Y at I0 hel
    have isgo : go.cls = .type "generator" := by rw [← hgo]
    have gaI : (h'.push go).get? h'.objs.size = some go := Heap.get?_push_size _ (by rw [← hgo]; rfl)
    have szH : h'.objs.size = h3.objs.size + 1 := sb.1.trans (Heap.size_push ..)
    have gaH : H2 h'.objs.size = none := J4.hok.fresh (show h3.objs.size ≤ h'.objs.size by omega)
    have I1 : Inv Y [(h'.objs.size, go)] (none :: cs.map (fun p => σ.getD p.2 none)) H2 { r1 with heap := h'.push go, gens := r1.gens.push (.fresh (.compStart (.GeneratorExp elt [⟨.Name x px, iter, [], 0⟩] scope gpos) 0 (.ref r1.heap.objs.size) .none (genEnv scope (cloFrom X.env.cells scope.names []) h3.objs.size cv builtinsNs X.env))), toks := n3 + 1 + 1 + 1 } :=
      I0.pins_of fun q hq => by
        obtain rfl := List.mem_singleton.mp hq
        refine ⟨gaI, gaH, ?_, ?_, ?_⟩
        · rw [← hY]
          show h'.objs.size ≠ h3.objs.size
          omega
        · rw [← hY]
          intro z
          obtain ⟨_, o, ho, _⟩ := J.stack.mem (show h'.objs.size ∈ frs X.stack from z)
          have q1 : h'.objs.size < r1.heap.objs.size := Heap.lt_size ho
          omega
        · intro v z
          rw [← hgo] at z
          cases z
    have gs0 : GS Y h'.objs.size go r1.heap.objs.size (ItO tp a) (none :: cs.map (fun p => σ.getD p.2 none)) r1.gens.size Pv 0
        { r1 with heap := h'.push go, gens := r1.gens.push (.fresh (.compStart (.GeneratorExp elt [⟨.Name x px, iter, [], 0⟩] scope gpos) 0 (.ref r1.heap.objs.size) .none (genEnv scope (cloFrom X.env.cells scope.names []) h3.objs.size cv builtinsNs X.env))), toks := n3 + 1 + 1 + 1 } := by
      refine ⟨H2, I1, ?_, ⟨ob, Heap.get?_push_of_some _ ia', ?_⟩, by simp, p0 H2 tbd⟩
      · rw [← hH2, upd_ne (Nat.ne_of_gt ltP)]
        exact J.hok.fresh (Nat.le_refl _)
      · rw [← hob]
        exact ⟨rfl, rfl⟩
    have nY : Y.N.Nodup := by rw [← hY]; exact nd
    have gl := gl_loop (X := Y) (B := X.A.in1.in1) (ga := h'.objs.size) (go := go) (ia := r1.heap.objs.size) (yl := a) (tp := tp) (σ0 := none :: cs.map (fun p => σ.getD p.2 none)) (g := r1.gens.size) (Pv := Pv) (Qf := fun H' => Q (.bl false) H')
      (xs := xs) (te := te) (elt := elt) (iter := iter) (x := x) (px := px) (pos := gpos) (scope := scope) (by rw [← hY]; rfl) room.hd isgo (by rw [← hY]; rfl) (by rw [← hY]; exact List.mem_singleton.mpr rfl) nY
      (by rw [← hY]; rfl) (by rw [← hY]; exact S.loc) (by rw [← hY]; exact S.co) rfl hel (fun e s z => by rw [← hY] at z; exact z) (fun i H p => by rw [← hY]; exact pl i H p) (fun i v H hv p => (show (none :: cs.map (fun p => σ.getD p.2 none) : L2.St).set 0 (some v) = some v :: cs.map (fun p => σ.getD p.2 none) from rfl) ▸ step i v H hv p)
    have eY : Y.env = genEnv scope (cloFrom X.env.cells scope.names []) h3.objs.size cv builtinsNs X.env := by rw [← hY]; rfl
    refine Calls.spliced_nil ?_
    refine call_function_tree F.kind_all F.plain_all F.entry_all (F.args_all1 _) ?_
    unfold Builtin.«all»
    refine wpAny_bind (m := oneArg "all" _) (wpAny_pure ?_)
    refine wpAny_bind ?_
    have isG : ∀ h : Heap, h.get? h'.objs.size = some go → h.IsGen h'.objs.size r1.gens.size := fun h e =>
      ⟨go, _, _, e, isgo, by rw [← hgo], by rw [← hgo]⟩
    refine wpAny_pyIter_gen (isG _ gaI) ?_
    refine wpAny_pure ⟨plainId_quiet F.plain_all_loop _, ?_⟩
    have pY : model X.prog X.w = model Y.prog Y.w := by rw [← hY]; rfl
    rw [pY]
    refine gl_all (X := Y) (A := X.A) (B := X.A.in1.in1) (g := r1.gens.size) (tp := tp) (yl := a) (ia := r1.heap.objs.size) (σ0 := none :: cs.map (fun p => σ.getD p.2 none)) (Pv := Pv) (Qf := fun H' => Q (.bl false) H') (xs := xs) room.hd rfl room.depth isG ?_ xs.length 0 _ _ (Nat.zero_add _) gs0 Array.getElem?_push_size ?_
    · intro b s' H3 I3 q
      have e3 : s'.os = r1.os := by
        have := I3.os
        rw [← hY] at this
        exact this
      have u3 : Un (frs X.stack) [r1.heap.objs.size] H2 H3 h3 s'.heap := by
        have := I3.base
        rw [← hY] at this
        exact this
      have ok3 : HOk X.prog X.w H3 s'.heap := by
        have := I3.hok
        rw [← hY] at this
        exact this
      have out := J4.call' (s' := s') e3 u3 ok3 I3.bare (fun b hb => by
        obtain rfl := List.mem_singleton.mp hb
        refine ⟨.inr J.sz, Nat.ne_of_gt J.lt, i2, fun p hp z => ?_⟩
        obtain ⟨e, _⟩ := J.pin p hp
        rw [z] at e
        exact absurd (Heap.lt_size e) (Nat.lt_irrefl _))
      refine ⟨.bl b, H3, out, rfl, ?_⟩
      cases b with
      | true => rw [if_pos rfl] at q; exact fin H3 q
      | false => rw [if_neg Bool.false_ne_true] at q; exact q
    · intro s2 z1 z2 z3 z4
      refine ⟨rfl, ?_⟩
      have gs2 := gs0.gens z1 z2 z3 z4
      have lp := gl xs.length 0 s2 s2 (by omega) (Nat.zero_le _) gs2
      have out := gl_start (X := Y) (B := X.A.in1.in1) room.hd (tp := tp) (yl := a) (i := 0) (ia := r1.heap.objs.size) (by
        rw [z1]
        refine ⟨ob, Heap.get?_push_of_some _ ia', ?_⟩
        rw [← hob]
        exact ⟨rfl, rfl⟩) lp
      rw [eY] at out
      exact out
  cases seek : codeAmong gpos tb.toList with
  | none =>
    refine wpAny_genexprCodeX code_ (hdN.code tabN htri) (hdN.tab tabN) seek fun c' h' n' ext ge lt hco' _ htab' _ => ?_
    obtain ⟨_, _, _, _, _, _, _, _, _, _, _, _, _, _, _, _, _, _, _, tri', _⟩ := hco'
    exact onward _ h' n' _ ext (Nat.le_trans ge (Nat.le_of_lt lt)) htab'.2 ⟨_, rfl⟩ tri'
  | some cv =>
    refine wpAny_genexprCode_hit code_ (hdN.code tabN htri) seek ?_
    exact onward cv (r1.heap.push ob) r1.toks tb (Heap.ExtBut.refl _ _) (Nat.le_refl _) tabN ⟨#[], by simp⟩ htri
end LL
namespace LL
open PySem PySem.Spec PyProof.Rows L2

/-- the element over one sign; the name y is captured and holds the text b -/
def EltC (prog : Program) (w : World) (scope : Scope) (x y : Str) (elt : Expr) (b : Str) (pb : Nat → Bool) : Prop :=
  ∀ (ce : Env) (B : Around) (Ex : Value → Shared → Prop) (d : Nat) (u v : Tok) (r : Shared) (mm : Str → Option Value) (q : Addr),
    ce.scope = scope → ce.cells.lookup y = some q → r.heap.IsCell q (some (.str b v)) → r.heap.Ns ce.locals mm →
    mm x = some (.str ⟨#[d]⟩ u) → wpAny (model prog w) B (eval elt ce) (fun z r' => z = .bool (pb d) ∧ Keeps r r') Ex r

/-- sign in signs -/
theorem elt_in {prog : Program} {w : World} {scope : Scope} {x y b : Str} {p1 p2 p3 : Pos} (hk : scope.kind = .function)
    (hl : scope.names.lookup x = some .local) (hy : scope.names.lookup y = some .free)
    (d1 : (x == ("__debug__" : Str)) = false := by decide) (d2 : (y == ("__debug__" : Str)) = false := by decide)
    (d3 : (y == ("__classdict__" : Str)) = false := by decide) :
    EltC prog w scope x y (.Compare (.Name x p1) [.In] [.Name y p2] p3) b
      (fun c => !(Builtin.Str.occurrences b ⟨#[c]⟩ 0 b.length 1).isEmpty) := by
  intro ce B Ex d u v r mm q hs hc hq hn hm
  refine wpAny_Compare1 ?_
  refine wpAny_Name (wpAny_loadName_local (by rw [hs]; exact hk)
    (show ce.scope.names.lookup x = some .local by rw [hs]; exact hl) hn hm ?_) d1
  refine wpAny_Name (wpAny_loadName_free (by rw [hs]; exact hk)
    (show ce.scope.names.lookup y = some .free by rw [hs]; exact hy) hc hq ?_ d3) d2
  exact in_str ⟨rfl, GxR.keeps_tok _ _⟩

section
variable {X : Cx} {pins : List (Addr × Obj)} {σ : L2.St} {H : Hp} {s : Shared}

theorem gen_cap {c P : Addr} {elt iter : Expr} {x y : Str} {px gpos : Pos} {scope : Scope} {pb : Str → Nat → Bool}
    {te : TE} {k j : Nat} {Q' : Value → Shared → Prop} {R : Str → Str → Hp → Prop}
    (room : Room k X.A) (tabB : GxR.TabB X.base X.mg c P) (code_ : X.env.code = .ref c) (S : GxR.GenS X.env scope x)
    (it_ : PE X iter te) (el_ : ∀ b, EltC X.prog X.w scope x y elt b (pb b))
    (hj : X.N[j]? = some y) (hcel : X.env.scope.names.lookup y = some .cell)
    (hclo : ∀ cells q, cells.lookup y = some q → (cloFrom cells scope.names []).lookup y = some q)
    (fold_ : ∀ v, genFold iter X.env v = pure v) (I : Inv X pins σ H s)
    (h : te σ H fun v H1 => ∃ a b : Str, v = .str a ∧ σ[j]? = some (some (.str b)) ∧ GxR.TabG H1 P ∧ R a b H1)
    (fin : ∀ a b H1 g s5, R a b H1 → GxR.Ready X pins σ H1 P a (pb b) g s5 → Q' (.ref g) s5) :
    wpAny (model X.prog X.w) X.A (eval (.GeneratorExp elt [⟨.Name x px, iter, [], 0⟩] scope gpos) X.env) Q' X.xe s := by
  refine wpAny_GeneratorExp_walksQ room.hd S.co (closure_ok S.free) S.cell S.dot S.loc S.kind
    (by have := room.dp; omega) ?_ fold_
  refine thn (it_.run pins s σ H _ I h) fun vx r1 ⟨v, H1, J, rel, want⟩ => ?_
  obtain ⟨a, b, rfl, hb, ⟨tb, hTP, htri⟩, want⟩ := want
  obtain ⟨tk0, rfl⟩ := _root_.id rel
  -- the captured cell
  obtain ⟨mloc, _, hlook⟩ := J.loc
  obtain ⟨ub, rub, lub⟩ := hlook j y (.str b) hj hb (Or.inr (Or.inl hcel))
  obtain ⟨tkb, rfl⟩ := (show ∃ t, ub = Value.str b t from rub)
  have capt : ∃ q, X.env.cells.lookup y = some q ∧ r1.heap.IsCell q (some (.str b tkb)) := by
    rcases lub with ⟨hk1, _⟩ | ⟨_, q, hq1, hq2⟩
    · have hk2 : X.env.scope.names.lookup y = some .local := hk1
      rw [hcel] at hk2
      cases hk2
    · exact ⟨q, hq1, hq2⟩
  obtain ⟨q, hq1, oq, hqo, hqd⟩ := capt
  refine wpAny_pyIter_str fun ob Stp Wk hst0 => ?_
  have tabS : r1.heap.get? P = some { cls := .none, data := .fields tb } := J.hok P _ hTP
  have qP : q ≠ P := fun z => by
    rw [z, tabS] at hqo
    cases hqo
    cases hqd
  have ltP : P < r1.heap.objs.size := Heap.lt_size tabS
  have ltq : q < r1.heap.objs.size := Heap.lt_size hqo
  have tabN : (r1.heap.push ob).get? P = some { cls := .none, data := .fields tb } := Heap.get?_push_of_some _ tabS
  have hdN : PySem.W.CodeHd (r1.heap.push ob) c P :=
    tabB.code.keeps fun b' u' e' => Heap.get?_push_of_some _ (J.bk b' u' e')
  have limN : (r1.heap.push ob).NoLimit := J.nolimit.push ob
  refine ⟨limN, ?_⟩
  -- behind the code object, whichever it is
  have onward : ∀ (cv : Value) (h3 : Heap) (n3 : Nat) (tb' : Array Value), Heap.ExtBut P (r1.heap.push ob) h3 →
      (r1.heap.push ob).objs.size ≤ h3.objs.size → h3.get? P = some { cls := .none, data := .fields tb' } →
      (∃ more, tb' = tb ++ more) → TriplesOk tb'.toList →
      wpAny (model X.prog X.w) X.A (builtinsFor X.env.globals X.env.builtins) (fun bi s4 =>
        ∃ Ia fp wr n₀ Pf St₀ pz F, Value.ref r1.heap.objs.size = .ref Ia ∧
          (∀ A2 : Around, A2.handled = none → Walks X.prog X.w A2 Ia fp wr n₀ Pf St₀) ∧ St₀ 0 s4.heap ∧
          (∀ b' ∈ fp, b' < s4.heap.objs.size) ∧ s4.heap.NoLimit ∧ cStatics ∉ wr ∧
          (∀ hr : Heap, (∀ b' o', s4.heap.get? b' = some o' → hr.get? b' = some o') →
            QuietGen X.prog X.w
              (genEnv scope (cloFrom X.env.cells scope.names []) s4.heap.objs.size cv bi X.env)
              x [] elt (List.range s4.heap.objs.size) wr Pf pz F hr) ∧
          (∀ a' h5 n5 gs, gs.bare = true → s4.heap.objs.size < a' → h5.objs.size = a' + 1 →
            (∀ b' o', s4.heap.get? b' = some o' → h5.get? b' = some o') →
            WalksS X.prog X.w X.A.in4 a' (a' :: s4.heap.objs.size :: List.range s4.heap.objs.size)
              (s4.heap.objs.size :: wr) (GenOnlyQ s4.gens.size) (passing pz n₀ 0).length
              (fun i' y' => ∃ i, (passing pz n₀ 0)[i']? = some i ∧ F i y')
              (GenAt X.prog X.w X.A.in4 a' s4.gens.size s4.heap.objs.size
                (List.range s4.heap.objs.size) wr pz n₀ F) →
            GenAt X.prog X.w X.A.in4 a' s4.gens.size s4.heap.objs.size
              (List.range s4.heap.objs.size) wr pz n₀ F 0
              { s4 with gens := s4.gens.push gs, toks := n5, heap := h5 } →
            Q' (.ref a') { s4 with gens := s4.gens.push gs, toks := n5, heap := h5 })) X.xe
        { r1 with heap := h3, toks := n3 } := by
    intro cv h3 n3 tb' ext sz3 tab3 grew tri3
    obtain ⟨bm, mo, f1, f2, f3, f4, f5, f6, f7, f8⟩ := tabB.bm
    have statP : cStatics ≠ P := fun z => by
      obtain ⟨_, hns, _⟩ := J.nolimit
      obtain ⟨_, _, _, ho, hd, _⟩ := hns
      rw [z, tabS] at ho
      cases ho
      cases hd
    have statL : cStatics < r1.heap.objs.size := by
      obtain ⟨_, hns, _⟩ := J.nolimit
      exact hns.lt
    have szN : (r1.heap.push ob).objs.size = r1.heap.objs.size + 1 := Heap.size_push ..
    have old3 : ∀ b' u', b' ≠ P → r1.heap.get? b' = some u' → h3.get? b' = some u' :=
      fun b' u' ne e' => ext b' u' ne (Heap.get?_push_of_some _ e')
    have cell3 : h3.get? q = some oq := old3 q oq qP hqo
    refine wpAny_builtinsFor (m := X.mg)
      (by rw [J.ok.glob]; exact ((J.mod.glob.keeps J.bk).push ob).extBut ext tabB.gP)
      f1 f2 (old3 _ _ f4 (J.bk _ _ f5)) f6 f7 f8 ?_
    refine ⟨r1.heap.objs.size, [r1.heap.objs.size], [r1.heap.objs.size], a.cps.size, SignAt a, Stp, (fun _ => true),
      (fun i z => ∃ cc, a.cps[i]? = some cc ∧ z = .bool (pb b cc)), rfl, Wk, ?_, ?_, limN.extBut ext statP, ?_, ?_, ?_⟩
    · refine (Wk X.A room.hd).frame _ _ _ hst0 fun b' mem' u' e' => ext b' u' (fun z => ?_) e'
      rcases List.mem_cons.mp mem' with z2 | z2
      · exact Nat.ne_of_lt ltP (z.symm.trans z2)
      · cases z2
    · intro b' mem'
      rcases List.mem_cons.mp mem' with z | z
      · rw [z]
        exact Nat.lt_of_lt_of_le (by rw [szN]; exact Nat.lt_succ_self _) sz3
      · cases z
    · intro mem'
      rcases List.mem_cons.mp mem' with z | z
      · exact Nat.ne_of_lt statL z
      · cases z
    · intro hr hhr
      refine ⟨fun A2 E2 i v' s2 m2 _ _ _ _ _ => ?_, fun A2 E2 i v' s2 m2 _ at_ _ ns2 m2x keep2 => ?_⟩
      · simp only [List.forIn_nil]
        exact wpAny_pure ⟨rfl, GxR.keeps_refl _⟩
      · obtain ⟨cc, tk', hcc, rfl⟩ := at_
        have q2 : s2.heap.get? q = some oq := by
          refine keep2 q (List.mem_range.mpr ?_) ?_ oq (hhr q oq cell3)
          · exact Nat.lt_of_lt_of_le ltq (Nat.le_trans (by rw [szN]; exact Nat.le_succ _) sz3)
          · intro z
            rcases List.mem_cons.mp z with z | z
            · exact Nat.ne_of_lt ltq z
            · cases z
        exact wpAny_mono (el_ b _ A2 E2 cc tk' tkb s2 m2 q rfl (hclo _ _ hq1) ⟨oq, q2, hqd⟩ ns2 m2x)
          (fun z s3 r => ⟨⟨cc, hcc, r.1⟩, r.2⟩) fun _ _ e => e
    · intro g h5 n5 gs bare5 above5 sz5 keep5 W5 gat
      simp only [GxR.passing_true, List.length_range] at W5
      refine fin a b H1 g _ want ⟨_, _, _, _, _, W5.in4_1, gat, ?_, fun s9 mv => ?_⟩
      · intro i' z' sj Qj Ej hz' hQj
        obtain ⟨i, hi, cc, hcc, rfl⟩ := hz'
        obtain ⟨_, ei⟩ := List.getElem?_eq_some_iff.mp hi
        rw [List.getElem_range] at ei
        subst ei
        have at9 : a.cps.toList[i']? = some cc := by rw [Array.getElem?_toList]; exact hcc
        have hQ2 : Qj (GxR.trF (pb b) a.cps.toList i') sj := hQj
        rw [GxR.trF_some at9] at hQ2
        exact wpAny_truthy_bool hQ2
      · obtain ⟨more, em⟩ := grew
        have apart : ∀ b' u', r1.heap.get? b' = some u' → b' ∉ h3.objs.size :: [r1.heap.objs.size] := fun b' u' e' mem' => by
          have lt' := Heap.lt_size e'
          have sz9 : r1.heap.objs.size + 1 ≤ h3.objs.size := szN ▸ sz3
          rcases List.mem_cons.mp mem' with z | z
          · rw [z] at lt'
            exact absurd (Nat.lt_trans lt' (Nat.lt_of_lt_of_le (Nat.lt_succ_self _) sz9)) (Nat.lt_irrefl _)
          · rcases List.mem_cons.mp z with z | z
            · rw [z] at lt'
              exact Nat.lt_irrefl _ lt'
            · cases z
        have J9 := GxR.inv_tab (more := more) (h' := s9.heap) (g' := s9.gens) (d' := s9.drawn) (t' := s9.toks) J hTP
          (fun b' u' ne e' => mv.heap b' u' (apart b' u' e') (keep5 b' u' (old3 b' u' ne e')))
          (by rw [← em]; exact mv.heap P _ (apart P _ tabS) (keep5 P _ tab3)) (AllBare.movedS (J.bare.push bare5) mv)
        rw [GxR.sh_eta r1 s9 mv.os] at J9
        exact ⟨upd H1 P (.tbl (tb ++ more)), ⟨⟨tb ++ more, upd_same, by rw [← em]; exact tri3⟩, fun b' ne => upd_ne ne⟩, J9⟩
  cases seek : codeAmong gpos tb.toList with
  | none =>
    refine wpAny_genexprCodeX code_ (hdN.code tabN htri) (hdN.tab tabN) seek fun c' h' n' ext ge lt hco' _ htab' _ => ?_
    obtain ⟨_, _, _, _, _, _, _, _, _, _, _, _, _, _, _, _, _, _, _, tri', _⟩ := hco'
    exact onward _ h' n' _ ext (Nat.le_trans ge (Nat.le_of_lt lt)) htab'.2 ⟨_, rfl⟩ tri'
  | some cv =>
    refine wpAny_genexprCode_hit code_ (hdN.code tabN htri) seek ?_
    exact onward cv (r1.heap.push ob) r1.toks tb (Heap.ExtBut.refl _ _) (Nat.le_refl _) tabN ⟨#[], by simp⟩ htri

/-- all(elt for x in e), e a text, one captured text -/
def tAllC (P : Addr) (j : Nat) (pb : Str → Nat → Bool) (te : TE) : TE := fun σ H Q =>
  te σ H fun v H1 => ∃ a b : Str, v = .str a ∧ σ[j]? = some (some (.str b)) ∧ GxR.TabG H1 P ∧
    ∀ H2, GxR.Tabbed P H1 H2 → Q (.bl (a.cps.toList.all (pb b))) H2
theorem pe_allC {c P : Addr} {elt iter : Expr} {x y : Str} {px p pos gpos : Pos} {scope : Scope} {pb : Str → Nat → Bool}
    {te : TE} {k j : Nat} (room : Room k X.A) (hg : Gl X "all") (hm : X.mg "all" = none)
    (hb : bootBuiltins "all" = some (.builtin "all")) (tabB : GxR.TabB X.base X.mg c P) (code_ : X.env.code = .ref c)
    (S : GxR.GenS X.env scope x) (it_ : PE X iter te) (el_ : ∀ b, EltC X.prog X.w scope x y elt b (pb b))
    (hj : X.N[j]? = some y) (hcel : X.env.scope.names.lookup y = some .cell)
    (hclo : ∀ cells q, cells.lookup y = some q → (cloFrom cells scope.names []).lookup y = some q)
    (fold_ : ∀ v, genFold iter X.env v = pure v)
    (he : starEach [.GeneratorExp elt [⟨.Name x px, iter, [], 0⟩] scope gpos] X.env =
      (false, eval (.GeneratorExp elt [⟨.Name x px, iter, [], 0⟩] scope gpos) X.env) :: starEach [] X.env := by rfl) :
    PE X (.Call (.Name "all" p) [.GeneratorExp elt [⟨.Name x px, iter, [], 0⟩] scope gpos] [] pos) (tAllC P j pb te) := by
  refine ⟨fun pins s σ H Q I h => ?_⟩
  refine wpAny_Call_Name_kw (ld_blt I hg hm hb ?_)
  refine PyProof.Rows.callWith_builtin1 ?_ he (by rfl)
  rw [he]
  refine (show wpAny _ _ (spliced ((false, eval (.GeneratorExp elt [⟨.Name x px, iter, [], 0⟩] scope gpos) X.env) ::
    backTo pos (starEach [] X.env))) _ _ s from ?_)
  refine Calls.spliced_cons (gen_cap (R := fun a b H1 => ∀ H2, GxR.Tabbed P H1 H2 → Q (.bl (a.cps.toList.all (pb b))) H2)
    room tabB code_ S it_ el_ hj hcel hclo fold_ I h fun a b H1 g s5 hR rd => ?_)
  obtain ⟨fp, wr, G, F, Stg, Wg, hst, htr, back⟩ := rd
  refine Calls.spliced_nil ?_
  refine call_all_walkS (Wg.self 0 _ _ _ hst ⟨g, fp, wr, G, _, F, Stg, _, rfl, Wg, hst, htr, fun s9 mv => ?_⟩)
  obtain ⟨H2, tbd, J⟩ := back s9 mv
  refine ⟨.bl _, H2, J, rfl, ?_⟩
  rw [GxR.all_signs a (pb b)]
  exact hR H2 tbd
end
end LL
namespace LL
open PySem PySem.Spec PyProof.Rows L2
/-! ### rows of stretches, as sets of numbers -/
abbrev Pr := Nat × Nat
def has (r : List Pr) (n : Nat) : Bool := r.any fun z => decide (z.1 ≤ n) && decide (n < z.2)
def TidyFrom : Nat → List Pr → Prop
  | _, [] => True
  | b, z :: r => b ≤ z.1 ∧ z.1 < z.2 ∧ z.2 ≤ 400 ∧ TidyFrom (z.2 + 1) r
instance : ∀ (r : List Pr) (b : Nat), Decidable (TidyFrom b r)
  | [], _ => isTrue trivial
  | z :: r, b =>
    have := instDecidableTidyFrom r (z.2 + 1)
    by unfold TidyFrom; infer_instance
def Tidy (r : List Pr) : Prop := TidyFrom 0 r
instance (r : List Pr) : Decidable (Tidy r) := by unfold Tidy; infer_instance
/-- each a stretch -/
def Valid (r : List Pr) : Prop := ∀ z ∈ r, z.1 < z.2 ∧ z.2 ≤ 400
theorem has_nil (n : Nat) : has [] n = false := rfl
theorem has_cons (z : Pr) (r : List Pr) (n : Nat) : has (z :: r) n = ((decide (z.1 ≤ n) && decide (n < z.2)) || has r n) := rfl
theorem has_app (r q : List Pr) (n : Nat) : has (r ++ q) n = (has r n || has q n) := List.any_append
theorem has_one (b e n : Nat) : has [(b, e)] n = (decide (b ≤ n) && decide (n < e)) := by rw [has_cons, has_nil, Bool.or_false]
theorem TidyFrom.valid : ∀ {r : List Pr} {b : Nat}, TidyFrom b r → Valid r
  | [], _, _, _, h => nomatch h
  | z :: r, b, ⟨_, h2, h3, h4⟩, y, h => by
    rcases List.mem_cons.mp h with rfl | h
    · exact ⟨h2, h3⟩
    · exact h4.valid y h
theorem TidyFrom.weak : ∀ {r : List Pr} {b c : Nat}, c ≤ b → TidyFrom b r → TidyFrom c r
  | [], _, _, _, _ => trivial
  | _ :: _, _, _, l, ⟨h1, h2⟩ => ⟨Nat.le_trans l h1, h2⟩
theorem TidyFrom.low : ∀ {r : List Pr} {b n : Nat}, TidyFrom b r → has r n = true → b ≤ n ∧ n < 400
  | [], _, _, _, h => nomatch h
  | z :: r, b, n, ⟨h1, h2, h3, h4⟩, h => by
    rw [has_cons] at h
    rcases Bool.or_eq_true_iff.mp h with h | h
    · have h := Bool.and_eq_true_iff.mp h
      have l := of_decide_eq_true h.1
      have u := of_decide_eq_true h.2
      omega
    · have := h4.low h
      omega
theorem TidyFrom.none {r : List Pr} {b n : Nat} (h : TidyFrom b r) (l : n < b) : has r n = false := by
  cases q : has r n with
  | false => rfl
  | true =>
    have := (h.low q).1
    omega
theorem has_lt {r : List Pr} {n : Nat} (h : Valid r) (q : has r n = true) : n < 400 := by
  obtain ⟨z, hz, q⟩ := List.any_eq_true.mp q
  have q := Bool.and_eq_true_iff.mp q
  have := of_decide_eq_true q.2
  have := (h z hz).2
  omega
/-- two tidy rows of the same numbers are one -/
theorem tidy_one : ∀ {r q : List Pr} {b c : Nat}, TidyFrom b r → TidyFrom c q → (∀ n, has r n = has q n) → r = q
  | [], [], _, _, _, _, _ => rfl
  | [], z :: q, _, c, _, ⟨h1, h2, _, _⟩, e => by
    have := e z.1
    rw [has_nil, has_cons, decide_eq_true (Nat.le_refl z.1), decide_eq_true h2] at this
    cases this
  | z :: r, [], b, _, ⟨h1, h2, _, _⟩, _, e => by
    have := e z.1
    rw [has_nil, has_cons, decide_eq_true (Nat.le_refl z.1), decide_eq_true h2] at this
    cases this
  | z :: r, y :: q, b, c, ⟨h1, h2, h3, h4⟩, ⟨g1, g2, g3, g4⟩, e => by
    have inZ : ∀ n, z.1 ≤ n → n < z.2 → has (z :: r) n = true := fun n l u => by rw [has_cons, decide_eq_true l, decide_eq_true u]; rfl
    have inY : ∀ n, y.1 ≤ n → n < y.2 → has (y :: q) n = true := fun n l u => by rw [has_cons, decide_eq_true l, decide_eq_true u]; rfl
    have lowZ : ∀ n, n < z.1 → has (z :: r) n = false := fun n l => TidyFrom.none (b := z.1) (r := z :: r) ⟨Nat.le_refl _, h2, h3, h4⟩ l
    have lowY : ∀ n, n < y.1 → has (y :: q) n = false := fun n l => TidyFrom.none (b := y.1) (r := y :: q) ⟨Nat.le_refl _, g2, g3, g4⟩ l
    have e1 : z.1 = y.1 := by
      rcases Nat.lt_trichotomy z.1 y.1 with l | l | l
      · have a := inZ z.1 (Nat.le_refl _) h2
        rw [e, lowY _ l] at a
        cases a
      · exact l
      · have a := inY y.1 (Nat.le_refl _) g2
        rw [← e, lowZ _ l] at a
        cases a
    have outZ : has (z :: r) z.2 = false := by
      rw [has_cons, decide_eq_false (Nat.lt_irrefl _), Bool.and_false, Bool.false_or]
      exact h4.none (Nat.lt_succ_self _)
    have outY : has (y :: q) y.2 = false := by
      rw [has_cons, decide_eq_false (Nat.lt_irrefl _), Bool.and_false, Bool.false_or]
      exact g4.none (Nat.lt_succ_self _)
    have e2 : z.2 = y.2 := by
      rcases Nat.lt_trichotomy z.2 y.2 with l | l | l
      · have a := inY z.2 (by omega) l
        rw [← e, outZ] at a
        cases a
      · exact l
      · have a := inZ y.2 (by omega) l
        rw [e, outY] at a
        cases a
    have e3 : z = y := Prod.ext e1 e2
    subst e3
    have e4 : r = q := tidy_one h4 g4 fun n => by
      by_cases l : n < z.2 + 1
      · rw [h4.none l, g4.none l]
      · have a := e n
        rw [has_cons, has_cons, decide_eq_false (show ¬ n < z.2 by omega), Bool.and_false, Bool.false_or, Bool.false_or] at a
        exact a
    rw [e4]
theorem tidy_eq {r q : List Pr} (h : Tidy r) (g : Tidy q) (e : ∀ n, has r n = has q n) : r = q := tidy_one h g e
theorem TidyFrom.app : ∀ {r : List Pr} {b x y : Nat}, TidyFrom b r → (∀ z ∈ r, z.2 < x) → b ≤ x → x < y → y ≤ 400 → TidyFrom b (r ++ [(x, y)])
  | [], _, _, _, _, _, l, l2, l3 => ⟨l, l2, l3, trivial⟩
  | z :: r, b, x, y, ⟨h1, h2, h3, h4⟩, h, l, l2, l3 => ⟨h1, h2, h3, h4.app (fun w hw => h w (List.mem_cons_of_mem _ hw)) (h z List.mem_cons_self) l2 l3⟩
theorem Tidy.app {r : List Pr} {x y : Nat} (h : Tidy r) (l : ∀ z ∈ r, z.2 < x) (l2 : x < y) (l3 : y ≤ 400) : Tidy (r ++ [(x, y)]) := TidyFrom.app h l (Nat.zero_le _) l2 l3
/-- the last stretch goes one further -/
theorem TidyFrom.grow : ∀ {r : List Pr} {b x y : Nat}, TidyFrom b (r ++ [(x, y)]) → y + 1 ≤ 400 → TidyFrom b (r ++ [(x, y + 1)])
  | [], _, _, _, ⟨h1, h2, _, _⟩, l => ⟨h1, Nat.lt_succ_of_lt h2, l, trivial⟩
  | z :: r, b, x, y, ⟨h1, h2, h3, h4⟩, l => ⟨h1, h2, h3, TidyFrom.grow (r := r) h4 l⟩
theorem TidyFrom.len : ∀ {r : List Pr} {b : Nat}, TidyFrom b r → 2 * r.length + b ≤ 402 ∨ r = []
  | [], _, _ => .inr rfl
  | z :: r, b, ⟨h1, h2, h3, h4⟩ => by
    rcases h4.len with k | rfl
    · left
      rw [List.length_cons]
      omega
    · left
      rw [List.length_cons, List.length_nil]
      omega
theorem Tidy.len {r : List Pr} (h : Tidy r) : r.length ≤ 201 := by
  rcases TidyFrom.len h with k | rfl
  · omega
  · exact Nat.zero_le _
/-! ### the same as whole numbers -/
def span (z : Pr) : Nat := 2 ^ z.2 - 2 ^ z.1
theorem span_bit {z : Pr} (h : z.1 ≤ z.2) (n : Nat) : (span z).testBit n = (decide (z.1 ≤ n) && decide (n < z.2)) := by
  obtain ⟨b, e⟩ := z
  obtain ⟨k, rfl⟩ := Nat.exists_eq_add_of_le (show b ≤ e from h)
  have e1 : span (b, b + k) = 2 ^ b * (2 ^ k - 1) := by
    show 2 ^ (b + k) - 2 ^ b = _
    rw [Nat.pow_add, Nat.mul_sub, Nat.mul_one]
  rw [e1, Nat.testBit_two_pow_mul, Nat.testBit_two_pow_sub_one]
  by_cases l : b ≤ n
  · rw [decide_eq_true (show n ≥ b from l), Bool.true_and, Bool.true_and, decide_eq_decide]
    show n - b < k ↔ n < b + k
    omega
  · rw [decide_eq_false (show ¬ n ≥ b from l)]
    rfl
def maskN (r : List Pr) : Nat := r.foldl (fun m z => m ||| span z) 0
theorem mask_fold : ∀ (r : List Pr) (m n : Nat), Valid r → (r.foldl (fun m z => m ||| span z) m).testBit n = (m.testBit n || has r n)
  | [], m, n, _ => by rw [has_nil, Bool.or_false]; rfl
  | z :: r, m, n, h => by
    rw [List.foldl_cons, mask_fold r _ n (fun y hy => h y (List.mem_cons_of_mem _ hy)), Nat.testBit_or, span_bit (Nat.le_of_lt (h z List.mem_cons_self).1), has_cons, Bool.or_assoc]
theorem mask_bit {r : List Pr} (h : Valid r) (n : Nat) : (maskN r).testBit n = has r n := by
  unfold maskN
  rw [mask_fold r 0 n h, Nat.zero_testBit, Bool.false_or]
theorem lt_of_bits {m k : Nat} (h : ∀ n, m.testBit n = true → n < k) : m < 2 ^ k := by
  apply Nat.lt_pow_two_of_testBit
  intro i hi
  cases q : m.testBit i with
  | false => rfl
  | true =>
    have := h i q
    omega
theorem mask_lt {r : List Pr} (h : Valid r) : maskN r < 2 ^ 400 := lt_of_bits fun n q => by
  rw [mask_bit h] at q
  exact has_lt h q
/-! ### the lowest figure -/
theorem odd_part : ∀ a : Nat, 0 < a → ∃ k j : Nat, a = 2 ^ k * (2 * j + 1) := by
  intro a
  induction a using Nat.strongRecOn with
  | ind a ih =>
    intro h
    by_cases o : a % 2 = 1
    · exact ⟨0, a / 2, by rw [Nat.pow_zero, Nat.one_mul]; omega⟩
    · obtain ⟨k, j, e⟩ := ih (a / 2) (by omega) (by omega)
      refine ⟨k + 1, j, ?_⟩
      rw [Nat.pow_succ, Nat.mul_comm (2 ^ k) 2, Nat.mul_assoc, ← e]
      omega
theorem and_pred (k j : Nat) : (2 ^ k * (2 * j + 1)) &&& (2 ^ k * (2 * j + 1) - 1) = 2 ^ k * (2 * j) := by
  have p := Nat.two_pow_pos k
  have e1 : 2 ^ k * (2 * j + 1) - 1 = 2 ^ k * (2 * j) + (2 ^ k - 1) := by
    rw [Nat.mul_add, Nat.mul_one]
    omega
  apply Nat.eq_of_testBit_eq
  intro n
  rw [Nat.testBit_and, Nat.testBit_two_pow_mul, Nat.testBit_two_pow_mul, e1, Nat.testBit_two_pow_mul_add _ (by omega), Nat.testBit_two_pow_sub_one]
  by_cases l : n < k
  · rw [decide_eq_false (show ¬ n ≥ k by omega)]
    rfl
  · rw [if_neg l, decide_eq_true (show n ≥ k by omega), Bool.true_and, Bool.true_and]
    cases q : n - k with
    | zero =>
      rw [Nat.testBit_zero, Nat.testBit_zero]
      have : decide (2 * j % 2 = 1) = false := decide_eq_false (by omega)
      rw [this, Bool.and_false]
    | succ i =>
      rw [Nat.testBit_succ, Nat.testBit_succ]
      have : (2 * j + 1) / 2 = 2 * j / 2 := by omega
      rw [this, Bool.and_self]
theorem bits_low (k j : Nat) : Builtin.bitAnd ((2 ^ k * (2 * j + 1) : Nat) : Int) (-((2 ^ k * (2 * j + 1) : Nat) : Int)) = ((2 ^ k : Nat) : Int) ∧
    Builtin.bitAnd (-((2 ^ k * (2 * j + 1) : Nat) : Int)) ((2 ^ k * (2 * j + 1) : Nat) : Int) = ((2 ^ k : Nat) : Int) := by
  have p := Nat.two_pow_pos k
  generalize ha : 2 ^ k * (2 * j + 1) = a
  have a0 : 0 < a := by rw [← ha]; exact Nat.mul_pos p (by omega)
  have low : a &&& (a - 1) = 2 ^ k * (2 * j) := by rw [← ha]; exact and_pred k j
  have sub : a = 2 ^ k * (2 * j) + 2 ^ k := by rw [← ha, Nat.mul_add, Nat.mul_one]
  have h1 : decide ((0 : Int) ≤ (a : Int)) = true := decide_eq_true (Int.natCast_nonneg a)
  have h2 : decide ((0 : Int) ≤ -(a : Int)) = false := decide_eq_false (by omega)
  have h3 : (Builtin.bitNot (-(a : Int))).toNat = a - 1 := by
    show (-(-(a : Int)) - 1).toNat = a - 1
    omega
  constructor
  · unfold Builtin.bitAnd
    simp only [h1, h2]
    rw [h3, Int.toNat_natCast, low]
    omega
  · unfold Builtin.bitAnd
    simp only [h1, h2]
    rw [h3, Int.toNat_natCast, low]
    omega
theorem bits_pow (k : Nat) : Builtin.Int.intBits ((2 ^ k : Nat) : Int) = k + 1 := by
  unfold Builtin.Int.intBits
  have p := Nat.two_pow_pos k
  have ne : ¬ (((2 ^ k : Nat) : Int) == 0) = true := by
    generalize 2 ^ k = x at p ⊢
    simp
    omega
  rw [if_neg ne]
  rw [Int.natAbs_natCast, Nat.log2_two_pow]
/-- i's lowest figure is worth 2 ^ k -/
def Low (i : Int) (k : Nat) : Prop := ∃ j : Nat, i = ((2 ^ k * (2 * j + 1) : Nat) : Int) ∨ i = -((2 ^ k * (2 * j + 1) : Nat) : Int)
theorem Low.bits {i : Int} {k : Nat} (h : Low i k) : Builtin.bitAnd i (-i) = ((2 ^ k : Nat) : Int) := by
  obtain ⟨j, rfl | rfl⟩ := h
  · exact (bits_low k j).1
  · rw [Int.neg_neg]
    exact (bits_low k j).2
/-- the first number of a mask, from e on -/
theorem low_of {m e : Nat} (h : m / 2 ^ e ≠ 0) : ∃ k, Low ((m / 2 ^ e : Nat) : Int) k ∧ m.testBit (e + k) = true ∧ ∀ n, e ≤ n → n < e + k → m.testBit n = false := by
  obtain ⟨k, j, q⟩ := odd_part (m / 2 ^ e) (Nat.pos_of_ne_zero h)
  have bit : ∀ n, m.testBit (e + n) = (2 ^ k * (2 * j + 1)).testBit n := fun n => by
    rw [← q, Nat.testBit_div_two_pow, Nat.add_comm]
  refine ⟨k, ⟨j, .inl (by rw [q])⟩, ?_, fun n l u => ?_⟩
  · rw [bit, Nat.testBit_two_pow_mul, Nat.sub_self, Nat.testBit_zero, decide_eq_true (Nat.le_refl k), decide_eq_true (by omega)]
    rfl
  · obtain ⟨d, rfl⟩ := Nat.exists_eq_add_of_le l
    rw [bit, Nat.testBit_two_pow_mul, decide_eq_false (by omega)]
    rfl
/-- how far a mask's numbers go on from b -/
theorem low_not {m b : Nat} (h : m.testBit b = true) : ∃ k, 0 < k ∧ Low (Builtin.bitNot ((m / 2 ^ b : Nat) : Int)) k ∧ m.testBit (b + k) = false ∧ ∀ n, b ≤ n → n < b + k → m.testBit n = true := by
  obtain ⟨k, j, q⟩ := odd_part (m / 2 ^ b + 1) (Nat.succ_pos _)
  have p := Nat.two_pow_pos k
  have q1 : m / 2 ^ b = 2 ^ k * (2 * j) + (2 ^ k - 1) := by
    rw [Nat.mul_add, Nat.mul_one] at q
    omega
  have bit : ∀ n, m.testBit (b + n) = if n < k then true else (2 * j).testBit (n - k) := fun n => by
    rw [Nat.add_comm, ← Nat.testBit_div_two_pow, q1, Nat.testBit_two_pow_mul_add _ (by omega), Nat.testBit_two_pow_sub_one]
    split
    · rename_i l
      exact decide_eq_true l
    · rfl
  have k0 : 0 < k := by
    have := bit 0
    rw [Nat.add_zero, h] at this
    by_cases z : 0 < k
    · exact z
    · rw [if_neg z, show 0 - k = 0 by omega, Nat.testBit_zero, decide_eq_false (by omega)] at this
      cases this
  refine ⟨k, k0, ⟨j, .inr ?_⟩, ?_, fun n l u => ?_⟩
  · rw [← q]
    show -((m / 2 ^ b : Nat) : Int) - 1 = _
    omega
  · rw [bit, if_neg (Nat.lt_irrefl k), Nat.sub_self, Nat.testBit_zero]
    exact decide_eq_false (by omega)
  · obtain ⟨d, rfl⟩ := Nat.exists_eq_add_of_le l
    rw [bit, if_pos (by omega)]
theorem no_more {m e : Nat} (h : m / 2 ^ e = 0) : ∀ n, e ≤ n → m.testBit n = false := fun n l => by
  obtain ⟨d, rfl⟩ := Nat.exists_eq_add_of_le l
  rw [Nat.add_comm, ← Nat.testBit_div_two_pow, h, Nat.zero_testBit]
theorem or_masks (a b : Nat) : Builtin.bitOr (a : Int) (b : Int) = ((a ||| b : Nat) : Int) := by
  rw [bitOr_nn (Int.natCast_nonneg a) (Int.natCast_nonneg b), Int.toNat_natCast, Int.toNat_natCast]
theorem and_masks (a b : Nat) : Builtin.bitAnd (a : Int) (b : Int) = ((a &&& b : Nat) : Int) := by
  unfold Builtin.bitAnd
  simp only [decide_eq_true (Int.natCast_nonneg a), decide_eq_true (Int.natCast_nonneg b)]
  rw [Int.toNat_natCast, Int.toNat_natCast]
theorem less_masks (a b : Nat) : Builtin.bitAnd (a : Int) (Builtin.bitNot (b : Int)) = ((a - (a &&& b) : Nat) : Int) := by
  have e : Builtin.bitNot (Builtin.bitNot (b : Int)) = (b : Int) := by
    show -(-(b : Int) - 1) - 1 = b
    omega
  have n : ¬ (0 : Int) ≤ Builtin.bitNot (b : Int) := by
    show ¬ (0 : Int) ≤ -(b : Int) - 1
    omega
  unfold Builtin.bitAnd
  simp only [decide_eq_true (Int.natCast_nonneg a), decide_eq_false n]
  rw [e, Int.toNat_natCast, Int.toNat_natCast]
  have le : a &&& b ≤ a := Nat.and_le_left
  omega
theorem less_bit (n : Nat) : ∀ a b : Nat, (a - (a &&& b)).testBit n = (a.testBit n && !b.testBit n) := by
  induction n with
  | zero =>
    intro a b
    have le : a &&& b ≤ a := Nat.and_le_left
    have lo : ((a &&& b) % 2 = 1) ↔ (a % 2 = 1 ∧ b % 2 = 1) := by
      have := congrArg (fun x : Bool => x = true) (Nat.testBit_and a b 0)
      simpa [Nat.testBit_zero] using this
    rw [Nat.testBit_zero, Nat.testBit_zero, Nat.testBit_zero]
    rcases Nat.mod_two_eq_zero_or_one a with ha | ha <;> rcases Nat.mod_two_eq_zero_or_one b with hb | hb <;>
      rcases Nat.mod_two_eq_zero_or_one (a &&& b) with hc | hc <;>
      first
        | (exfalso; rw [ha, hb, hc] at lo; revert lo; decide)
        | (rw [show (a - (a &&& b)) % 2 = (a % 2 + (a &&& b) % 2) % 2 by omega, ha, hb, hc]; decide)
  | succ n ih =>
    intro a b
    have le : a &&& b ≤ a := Nat.and_le_left
    have lo : ((a &&& b) % 2 = 1) ↔ (a % 2 = 1 ∧ b % 2 = 1) := by
      have := congrArg (fun x : Bool => x = true) (Nat.testBit_and a b 0)
      simpa [Nat.testBit_zero] using this
    have hi : (a &&& b) / 2 = a / 2 &&& b / 2 := Nat.and_div_two
    have le2 : a / 2 &&& b / 2 ≤ a / 2 := Nat.and_le_left
    rw [Nat.testBit_succ, Nat.testBit_succ, Nat.testBit_succ, ← ih]
    congr 1
    omega
end LL
namespace LL
open PySem PySem.Spec PyProof.Rows L2
/-- a def of the top: where it stands and how it is called -/
structure Dn (K : PySem.W.Frag) (mg : Str → Option Value) (x : Str) (st : Stmt) (ps : List Str) where
  f : Addr
  fd : FuncData
  m : mg x = some (.ref f)
  F : Fun K x x st f fd
  b : Binds K fd ps []

theorem pcall {X : Cx} {x : Str} {st : Stmt} {ps : List Str} {sp : Sp} {j k : Nat} {e : Expr} {es : List Expr} {t : TA} {p pos : Pos}
    (D : Dn X.K X.mg x st ps) (G : FnOk X.prog X.w X.K X.mg X.base CX0 j D.f D.fd ps sp) (hr : Room k X.A) (hjk : j ≤ k)
    (hg : Gl X x) (ha : PA X (e :: es) t) (hd : (x == ("__debug__" : Str)) = false := by decide)
    (he : starEach (e :: es) X.env = (false, eval e X.env) :: starEach es X.env := by rfl)
    (hp : (backTo pos (starEach es X.env)).any (·.1) = false := by rfl) :
    PE X (.Call (.Name x p) (e :: es) [] pos) (tCall sp [] E0 t) :=
  pe_call G (hr.mono hjk) hg D.m D.F.kp D.b .nil pass0 ha hd he hp
theorem pcall0 {X : Cx} {x : Str} {st : Stmt} {ps : List Str} {sp : Sp} {j k : Nat} {p pos : Pos}
    (D : Dn X.K X.mg x st ps) (G : FnOk X.prog X.w X.K X.mg X.base CX0 j D.f D.fd ps sp) (hr : Room k X.A) (hjk : j ≤ k)
    (hg : Gl X x) (hd : (x == ("__debug__" : Str)) = false := by decide) :
    PE X (.Call (.Name x p) [] [] pos) (tCall sp [] E0 tNil) :=
  pe_call0 G (hr.mono hjk) hg D.m D.F.kp D.b .nil pass0 hd

/-- what may be asked of: None, a bool, an int, a text, a list, a tuple, a dict -/
inductive Thing (K : PySem.W.Frag) (H : Hp) : V → Prop
  | non : Thing K H .non
  | bl (b : Bool) : Thing K H (.bl b)
  | int (i : Int) : Thing K H (.int i)
  | str (z : Str) : Thing K H (.str z)
  | lst {a : Addr} (h : TyX K H (.ref a) (.type "list")) : Thing K H (.ref a)
  | tup {a : Addr} (h : TyX K H (.ref a) (.type "tuple")) : Thing K H (.ref a)
  | dct {a : Addr} (h : TyX K H (.ref a) (.type "dict")) : Thing K H (.ref a)
def isInt : V → Bool
  | .int _ => true
  | _ => false
def isIntB : V → Bool
  | .int _ => true
  | .bl _ => true
  | _ => false
def isBl : V → Bool
  | .bl _ => true
  | _ => false
def isStr : V → Bool
  | .str _ => true
  | _ => false
/-- isinstance(x, T) for such a thing -/
theorem isi_int {K : PySem.W.Frag} {H : Hp} {x : V} {Q : VK} (h : Thing K H x) (q : Q (.bl (isIntB x)) H) : rIsi K [x, .ty "int"] H Q := by
  cases h with
  | non => exact ⟨_, _, _, _, _, rfl, .ty _, .base .non, kit_ty (r := false) (by decide +kernel), q⟩
  | bl b => exact ⟨_, _, _, _, _, rfl, .ty _, .base (.bl b), kit_ty (r := true) (by decide +kernel), q⟩
  | int i => exact ⟨_, _, _, _, _, rfl, .ty _, .base (.int i), kit_ty (r := true) (by decide +kernel), q⟩
  | str z => exact ⟨_, _, _, _, _, rfl, .ty _, .base (.str z), kit_ty (r := false) (by decide +kernel), q⟩
  | lst h => exact ⟨_, _, _, _, _, rfl, .ty _, h, kit_ty (r := false) (by decide +kernel), q⟩
  | tup h => exact ⟨_, _, _, _, _, rfl, .ty _, h, kit_ty (r := false) (by decide +kernel), q⟩
  | dct h => exact ⟨_, _, _, _, _, rfl, .ty _, h, kit_ty (r := false) (by decide +kernel), q⟩
theorem isi_bool {K : PySem.W.Frag} {H : Hp} {x : V} {Q : VK} (h : Thing K H x) (q : Q (.bl (isBl x)) H) : rIsi K [x, .ty "bool"] H Q := by
  cases h with
  | non => exact ⟨_, _, _, _, _, rfl, .ty _, .base .non, kit_ty (r := false) (by decide +kernel), q⟩
  | bl b => exact ⟨_, _, _, _, _, rfl, .ty _, .base (.bl b), kit_ty (r := true) (by decide +kernel), q⟩
  | int i => exact ⟨_, _, _, _, _, rfl, .ty _, .base (.int i), kit_ty (r := false) (by decide +kernel), q⟩
  | str z => exact ⟨_, _, _, _, _, rfl, .ty _, .base (.str z), kit_ty (r := false) (by decide +kernel), q⟩
  | lst h => exact ⟨_, _, _, _, _, rfl, .ty _, h, kit_ty (r := false) (by decide +kernel), q⟩
  | tup h => exact ⟨_, _, _, _, _, rfl, .ty _, h, kit_ty (r := false) (by decide +kernel), q⟩
  | dct h => exact ⟨_, _, _, _, _, rfl, .ty _, h, kit_ty (r := false) (by decide +kernel), q⟩
theorem isi_str {K : PySem.W.Frag} {H : Hp} {x : V} {Q : VK} (h : Thing K H x) (q : Q (.bl (isStr x)) H) : rIsi K [x, .ty "str"] H Q := by
  cases h with
  | non => exact ⟨_, _, _, _, _, rfl, .ty _, .base .non, kit_ty (r := false) (by decide +kernel), q⟩
  | bl b => exact ⟨_, _, _, _, _, rfl, .ty _, .base (.bl b), kit_ty (r := false) (by decide +kernel), q⟩
  | int i => exact ⟨_, _, _, _, _, rfl, .ty _, .base (.int i), kit_ty (r := false) (by decide +kernel), q⟩
  | str z => exact ⟨_, _, _, _, _, rfl, .ty _, .base (.str z), kit_ty (r := true) (by decide +kernel), q⟩
  | lst h => exact ⟨_, _, _, _, _, rfl, .ty _, h, kit_ty (r := false) (by decide +kernel), q⟩
  | tup h => exact ⟨_, _, _, _, _, rfl, .ty _, h, kit_ty (r := false) (by decide +kernel), q⟩
  | dct h => exact ⟨_, _, _, _, _, rfl, .ty _, h, kit_ty (r := false) (by decide +kernel), q⟩

section
variable {X : Cx}
theorem call_is_int : CallR X (.builtin "isinstance") (fun xs H Q => ∃ x, xs = [x, .ty "int"] ∧ Thing X.K H x ∧ Q (.bl (isIntB x)) H) := by
  intro pins s σ H xs us Q I r ⟨x, e, th, q⟩
  subst e
  exact call_isi pins s σ H _ us Q I r (isi_int th q)
theorem call_is_bool : CallR X (.builtin "isinstance") (fun xs H Q => ∃ x, xs = [x, .ty "bool"] ∧ Thing X.K H x ∧ Q (.bl (isBl x)) H) := by
  intro pins s σ H xs us Q I r ⟨x, e, th, q⟩
  subst e
  exact call_isi pins s σ H _ us Q I r (isi_bool th q)
theorem call_is_str : CallR X (.builtin "isinstance") (fun xs H Q => ∃ x, xs = [x, .ty "str"] ∧ Thing X.K H x ∧ Q (.bl (isStr x)) H) := by
  intro pins s σ H xs us Q I r ⟨x, e, th, q⟩
  subst e
  exact call_isi pins s σ H _ us Q I r (isi_str th q)
end

/-- a def whose code object is known -/
theorem okC {P : Program} {w : World} {K : PySem.W.Frag} {mg : Str → Option Value} {base : Heap} {x : Str} {st : Stmt} {f c : Addr}
    {fd : FuncData} {N ps : List Str} {k : Nat} {sp : Sp} (F : Fun K x x st f fd) (hc : fd.code = .ref c) (S : FnScope N ps (defScope st))
    (len : ∀ vs H Q E, sp vs H Q E → vs.length = ps.length)
    (body : ∀ (A : Around) (outer : List Env) (s : Shared) (H : Hp) (vs : List V) (Q : VK) (E : XK),
      Room k (A.deeper (envOfC x (defScope st) s.heap.objs.size f (.ref c))) → sp vs H Q E →
      ∃ t, PSs (cxOf CX0 P w K mg base N x (defScope st) f (.ref c) A outer s H E).nox (defBody st) t ∧
        t { nx := fun _ H' => Q .non H', rt := Q } (start N vs) H) : FnOk P w K mg base CX0 (k + 1) f fd ps sp := by
  obtain ⟨c1, d1, k1, doc, pm, an, cd, c2, sl, rfl, look, isCode⟩ := F.ex
  have hcd : cd = .ref c := hc
  subst hcd
  exact fn_of look isCode S len fun A outer s H vs Q E room want =>
    let ⟨t, h, q⟩ := body A outer s H vs Q E room want
    ⟨t, h.nox, q⟩

/-- a def's facts, put together -/
def dn_mk {x : Str} {st : Stmt} {ps : List Str} {K : PySem.W.Frag} {h : Heap} {mg : Str → Option Value} {f : Addr} {oc : Value} {od an : Option Addr} {sl : Array (Option Value)} {kV doc pm cdv ct : Value}
    (X : K.In h) (G : h.Ns mainGlobals mg) (a : PySem.W.nsIn K mainGlobals x = some (some (.ref f)))
    (l : K.lookup f = some ⟨oc, od, .func (PySem.W.fnOf x x (defArgs st) (defBody st) (defScope st) .none kV doc pm an cdv ct), sl⟩)
    (c : PySem.W.codeIn K cdv x = true) (k : PySem.W.keepIn K (.ref f) = true)
    (b : ∀ (kV doc pm : Value) (an : Option Addr) (cdv ct : Value) (us : List Value), us.length = ps.length → bindArgs (PySem.W.fnOf x x (defArgs st) (defBody st) (defScope st) .none kV doc pm an cdv ct) ⟨us, []⟩ = pure (ps.zip us)) :
    Dn K mg x st ps := ⟨f, _, PySem.W.mg_of X G a, fun_mk l c k, (fun_mk l c k).binds b⟩
theorem own_mk {K : PySem.W.Frag} {h : Heap} {mg : Str → Option Value} {nm : Str} (own : ∀ f, mg nm = some (.ref f) → LamX.OwnTab K f h)
    {f c tb : Addr} {o : Obj} {fd : FuncData} {e : Value} {dd : Option Addr} {vs : Array Value} {sl : Array (Option Value)}
    (m : mg nm = some (.ref f)) (l0 : K.lookup f = some o) (d : o.data = .func fd) (cc : fd.code = .ref c)
    (l1 : K.lookup c = some ⟨e, dd, .fields vs, sl⟩) (v : vs[11]? = some (.ref tb)) : h.get? tb = some { cls := .none, data := .fields #[] } :=
  own f m c tb o fd e dd vs sl l0 d cc l1 v
theorem code_mk {K : PySem.W.Frag} {h : Heap} (X : K.In h) {c tb : Addr} {dd : Option Addr} {vs : Array Value} {sl : Array (Option Value)} {file : Str} {tf tg tt : Tok} {flags text : Int} {inF : Bool}
    (lk : K.lookup c = some ⟨.type "code", dd, .fields vs, sl⟩) (v : vs[11]? = some (.ref tb)) (v1 : vs.getD 11 .none = .ref tb) (v2 : vs.getD 18 .none = .str file tf)
    (v3 : vs.getD 7 .none = .int flags tg) (v4 : vs.getD 9 .none = .bool inF) (v5 : vs.getD 10 .none = .int text tt) (n : c ≠ tb) : PySem.W.CodeHd h c tb :=
  ⟨_, vs, file, tf, flags, tg, inF, text, tt, X _ _ lk, rfl, rfl, v, v1, v2, v3, v4, v5, n⟩

/-- such a def's call, where no repr is under way -/
theorem pcallG {X : Cx} {x : Str} {st : Stmt} {ps : List Str} {sp : Sp} {j k : Nat} {e : Expr} {es : List Expr} {t : TA} {p pos : Pos}
    (D : Dn X.K X.mg x st ps) (G : FnG X.prog X.w X.K X.mg X.base j D.f D.fd ps sp) (guard : X.A.guards = some []) (hr : Room k X.A) (hjk : j ≤ k)
    (hg : Gl X x) (ha : PA X (e :: es) t) (hd : (x == ("__debug__" : Str)) = false := by decide)
    (he : starEach (e :: es) X.env = (false, eval e X.env) :: starEach es X.env := by rfl)
    (hp : (backTo pos (starEach es X.env)).any (·.1) = false := by rfl) :
    PE X (.Call (.Name x p) (e :: es) [] pos) (tCall sp [] E0 t) :=
  pe_callG G guard (hr.mono hjk) hg D.m D.F.kp D.b ha hd he hp
theorem ix_listK {X : Cx} {K : PySem.W.Frag} (h : X.K = K) : IxR X (rIxL K) := by
  rw [← h]
  exact ix_list
theorem ix_tupK {X : Cx} {K : PySem.W.Frag} (h : X.K = K) : IxR X (rIxT K) := by
  rw [← h]
  exact ix_tup
/-- a value's truth, as a test -/
def tTru (K : PySem.W.Frag) (ta : TE) : TT := fun σ H Q => ta σ H fun x H' => ∃ k, TruV K x H' k ∧ Q k H'
theorem pt_tru {X : Cx} {a : Expr} {ta : TE} (ha : PE X a ta) (he : ∀ whole, isTrue a X.env whole = (do let v ← whole; standAt a.pos; holding [v] (truthy v)) := by intro _; rfl) : PT X a (tTru X.K ta) := pt_truth ha he
/-- isinstance(x, tuple) -/
inductive IsTup (K : PySem.W.Frag) (H : Hp) : V → Bool → Prop
  | non : IsTup K H .non false
  | bl (b : Bool) : IsTup K H (.bl b) false
  | int (i : Int) : IsTup K H (.int i) false
  | str (z : Str) : IsTup K H (.str z) false
  | lst {a : Addr} (h : TyX K H (.ref a) (.type "list")) : IsTup K H (.ref a) false
  | tup {a : Addr} (h : TyX K H (.ref a) (.type "tuple")) : IsTup K H (.ref a) true
  | dct {a : Addr} (h : TyX K H (.ref a) (.type "dict")) : IsTup K H (.ref a) false
theorem isi_tup {K : PySem.W.Frag} {H : Hp} {x : V} {b : Bool} {Q : VK} (h : IsTup K H x b) (q : Q (.bl b) H) : rIsi K [x, .ty "tuple"] H Q := by
  cases h with
  | non => exact ⟨_, _, _, _, _, rfl, .ty _, .base .non, kit_ty (r := false) (by decide +kernel), q⟩
  | bl b => exact ⟨_, _, _, _, _, rfl, .ty _, .base (.bl b), kit_ty (r := false) (by decide +kernel), q⟩
  | int i => exact ⟨_, _, _, _, _, rfl, .ty _, .base (.int i), kit_ty (r := false) (by decide +kernel), q⟩
  | str z => exact ⟨_, _, _, _, _, rfl, .ty _, .base (.str z), kit_ty (r := false) (by decide +kernel), q⟩
  | lst h => exact ⟨_, _, _, _, _, rfl, .ty _, h, kit_ty (r := false) (by decide +kernel), q⟩
  | tup h => exact ⟨_, _, _, _, _, rfl, .ty _, h, kit_ty (r := true) (by decide +kernel), q⟩
  | dct h => exact ⟨_, _, _, _, _, rfl, .ty _, h, kit_ty (r := false) (by decide +kernel), q⟩
/-- isinstance(x, list) -/
inductive IsLst (K : PySem.W.Frag) (H : Hp) : V → Bool → Prop
  | non : IsLst K H .non false
  | bl (b : Bool) : IsLst K H (.bl b) false
  | int (i : Int) : IsLst K H (.int i) false
  | str (z : Str) : IsLst K H (.str z) false
  | lst {a : Addr} (h : TyX K H (.ref a) (.type "list")) : IsLst K H (.ref a) true
  | tup {a : Addr} (h : TyX K H (.ref a) (.type "tuple")) : IsLst K H (.ref a) false
  | dct {a : Addr} (h : TyX K H (.ref a) (.type "dict")) : IsLst K H (.ref a) false
theorem isi_lst {K : PySem.W.Frag} {H : Hp} {x : V} {b : Bool} {Q : VK} (h : IsLst K H x b) (q : Q (.bl b) H) : rIsi K [x, .ty "list"] H Q := by
  cases h with
  | non => exact ⟨_, _, _, _, _, rfl, .ty _, .base .non, kit_ty (r := false) (by decide +kernel), q⟩
  | bl b => exact ⟨_, _, _, _, _, rfl, .ty _, .base (.bl b), kit_ty (r := false) (by decide +kernel), q⟩
  | int i => exact ⟨_, _, _, _, _, rfl, .ty _, .base (.int i), kit_ty (r := false) (by decide +kernel), q⟩
  | str z => exact ⟨_, _, _, _, _, rfl, .ty _, .base (.str z), kit_ty (r := false) (by decide +kernel), q⟩
  | lst h => exact ⟨_, _, _, _, _, rfl, .ty _, h, kit_ty (r := true) (by decide +kernel), q⟩
  | tup h => exact ⟨_, _, _, _, _, rfl, .ty _, h, kit_ty (r := false) (by decide +kernel), q⟩
  | dct h => exact ⟨_, _, _, _, _, rfl, .ty _, h, kit_ty (r := false) (by decide +kernel), q⟩
section
variable {X : Cx}
theorem call_is_tuple : CallR X (.builtin "isinstance") (fun xs H Q => ∃ x b, xs = [x, .ty "tuple"] ∧ IsTup X.K H x b ∧ Q (.bl b) H) := by
  intro pins s σ H xs us Q I r ⟨x, b, e, th, q⟩
  subst e
  exact call_isi pins s σ H _ us Q I r (isi_tup th q)
theorem call_is_list : CallR X (.builtin "isinstance") (fun xs H Q => ∃ x b, xs = [x, .ty "list"] ∧ IsLst X.K H x b ∧ Q (.bl b) H) := by
  intro pins s σ H xs us Q I r ⟨x, b, e, th, q⟩
  subst e
  exact call_isi pins s σ H _ us Q I r (isi_lst th q)
theorem tyX_l {K : PySem.W.Frag} {H : Hp} {a : Addr} {xs : List V} (h : H a = some (.lst xs)) : TyX K H (.ref a) (.type "list") := .base (.lst h)
theorem tyX_t {K : PySem.W.Frag} {H : Hp} {a : Addr} {xs : List V} (h : H a = some (.tup xs)) : TyX K H (.ref a) (.type "tuple") := .base (.tup h)
end
/-! ### what is kept -/
/-- all that stood is kept, but the table at P -/
structure Nw (P : Addr) (H H' : Hp) : Prop where
  was : GxR.TabG H P
  tab : GxR.TabG H' P
  old : ∀ b o, b ≠ P → H b = some o → H' b = some o
theorem Nw.refl {P : Addr} {H : Hp} (h : GxR.TabG H P) : Nw P H H := ⟨h, h, fun _ _ _ e => e⟩
theorem Nw.trans {P : Addr} {H H1 H2 : Hp} (x : Nw P H H1) (y : Nw P H1 H2) : Nw P H H2 := ⟨x.was, y.tab, fun b o n e => y.old b o n (x.old b o n e)⟩
theorem Nw.of {P : Addr} {H H' : Hp} (h : GxR.TabG H P) (t : GxR.Tabbed P H H') : Nw P H H' := ⟨h, t.1, fun b o n e => by rw [t.2 b n]; exact e⟩
theorem tab_ne {P a : Addr} {H : Hp} {o : HO} (h : GxR.TabG H P) (e : H a = some o) (n : ∀ q, o ≠ .tbl q) : a ≠ P := fun z => by
  obtain ⟨ps, e2, _⟩ := h
  rw [z, e2] at e
  exact n ps (Option.some.inj e).symm
theorem tab_free {P a : Addr} {H : Hp} (h : GxR.TabG H P) (e : H a = none) : P ≠ a := fun z => by
  obtain ⟨ps, e2, _⟩ := h
  rw [z, e] at e2
  cases e2
theorem tab_upd {P a : Addr} {H : Hp} {o : HO} (h : GxR.TabG H P) (n : P ≠ a) : GxR.TabG (upd H a o) P := by
  obtain ⟨ps, e2, t⟩ := h
  exact ⟨ps, by rw [upd_ne n]; exact e2, t⟩
/-- a new object more -/
theorem Nw.new {P p : Addr} {H H1 : Hp} {u : HO} (x : Nw P H H1) (hp : H1 p = none) : Nw P H (L2.upd H1 p u) :=
  ⟨x.was, tab_upd x.tab (tab_free x.tab hp), fun c v n q => by rw [upd_ne (ne_of_none (x.old c v n q) hp)]; exact x.old c v n q⟩
/-- an object that is new since H is changed -/
theorem Nw.put {P p : Addr} {H H1 : Hp} {u o : HO} (x : Nw P H H1) (hp : H p = none) (ho : H1 p = some o) (n : ∀ q, o ≠ .tbl q) : Nw P H (L2.upd H1 p u) :=
  ⟨x.was, tab_upd x.tab (fun z => tab_ne x.tab ho n z.symm), fun c v m q => by rw [upd_ne (ne_of_none q hp)]; exact x.old c v m q⟩
theorem Nw.lst {P a : Addr} {H H' : Hp} {xs : List V} (x : Nw P H H') (e : H a = some (.lst xs)) : H' a = some (.lst xs) := x.old _ _ (tab_ne x.was e (fun q z => by cases z)) e
theorem Nw.tup {P a : Addr} {H H' : Hp} {xs : List V} (x : Nw P H H') (e : H a = some (.tup xs)) : H' a = some (.tup xs) := x.old _ _ (tab_ne x.was e (fun q z => by cases z)) e
theorem Nw.free {P a : Addr} {H H' : Hp} (x : Nw P H H') (e : H' a = none) : H a = none := by
  cases q : H a with
  | none => rfl
  | some o =>
    by_cases z : a = P
    · obtain ⟨ps, e2, _⟩ := x.tab
      rw [z, e2] at e
      cases e
    · rw [x.old _ _ z q] at e
      cases e
/-- what is no table is kept -/
def Keep (H H' : Hp) : Prop := ∀ b o, (∀ q, o ≠ .tbl q) → H b = some o → H' b = some o
theorem Nw.keep {P : Addr} {H H' : Hp} (x : Nw P H H') : Keep H H' := fun b o n e => x.old b o (tab_ne x.was e n) e
theorem tyOf_keep {K : PySem.W.Frag} {H H' : Hp} {x : V} {t : Value} (k : Keep H H') (h : TyOf K H x t) : TyOf K H' x t := by
  cases h with
  | non => exact .non
  | bl b => exact .bl b
  | int i => exact .int i
  | str z => exact .str z
  | flt z => exact .flt z
  | lst e => exact .lst (k _ _ (fun q z => by cases z) e)
  | frz e => exact .frz (k _ _ (fun q z => by cases z) e)
  | tup e => exact .tup (k _ _ (fun q z => by cases z) e)
  | dK e => exact .dK (k _ _ (fun q z => by cases z) e)
  | dT e => exact .dT (k _ _ (fun q z => by cases z) e)
  | ins e a b c d f => exact .ins (k _ _ (fun q z => by cases z) e) a b c d f
theorem tyX_keep {K : PySem.W.Frag} {H H' : Hp} {x : V} {t : Value} (k : Keep H H') (h : TyX K H x t) : TyX K H' x t := by
  cases h with
  | base h => exact .base (tyOf_keep k h)
  | byt b => exact .byt b
  | set e => exact .set (k _ _ (fun q z => by cases z) e)
  | kList e c => exact .kList e c
  | kTuple e c => exact .kTuple e c
  | kDict e c => exact .kDict e c
  | fTuple e => exact .fTuple (k _ _ (fun q z => by cases z) e)
  | fDict e => exact .fDict (k _ _ (fun q z => by cases z) e)
theorem Thing.keep {K : PySem.W.Frag} {H H' : Hp} {x : V} (k : Keep H H') (h : Thing K H x) : Thing K H' x := by
  cases h with
  | non => exact .non
  | bl b => exact .bl b
  | int i => exact .int i
  | str z => exact .str z
  | lst h => exact .lst (tyX_keep k h)
  | tup h => exact .tup (tyX_keep k h)
  | dct h => exact .dct (tyX_keep k h)
theorem IsTup.keep {K : PySem.W.Frag} {H H' : Hp} {x : V} {b : Bool} (k : Keep H H') (h : IsTup K H x b) : IsTup K H' x b := by
  cases h with
  | non => exact .non
  | bl b => exact .bl b
  | int i => exact .int i
  | str z => exact .str z
  | lst h => exact .lst (tyX_keep k h)
  | tup h => exact .tup (tyX_keep k h)
  | dct h => exact .dct (tyX_keep k h)
theorem IsLst.keep {K : PySem.W.Frag} {H H' : Hp} {x : V} {b : Bool} (k : Keep H H') (h : IsLst K H x b) : IsLst K H' x b := by
  cases h with
  | non => exact .non
  | bl b => exact .bl b
  | int i => exact .int i
  | str z => exact .str z
  | lst h => exact .lst (tyX_keep k h)
  | tup h => exact .tup (tyX_keep k h)
  | dct h => exact .dct (tyX_keep k h)
/-! ### a row of stretches in the heap -/
inductive PrsAt (H : Hp) : List Addr → List Pr → Prop
  | nil : PrsAt H [] []
  | cons {q : Addr} {qs : List Addr} {z : Pr} {r : List Pr} (h : H q = some (.tup [.int (z.1 : Int), .int (z.2 : Int)])) (t : PrsAt H qs r) : PrsAt H (q :: qs) (z :: r)
theorem PrsAt.len {H : Hp} {qs : List Addr} {r : List Pr} (h : PrsAt H qs r) : qs.length = r.length := by
  induction h with
  | nil => rfl
  | cons _ _ ih => rw [List.length_cons, List.length_cons, ih]
theorem PrsAt.app {H : Hp} {qs ps : List Addr} {r q : List Pr} (h : PrsAt H qs r) (g : PrsAt H ps q) : PrsAt H (qs ++ ps) (r ++ q) := by
  induction h with
  | nil => exact g
  | cons a _ ih => exact .cons a ih
theorem PrsAt.get {H : Hp} {qs : List Addr} {r : List Pr} (h : PrsAt H qs r) {i : Nat} {q : Addr} (e : qs[i]? = some q) : ∃ z, r[i]? = some z ∧ H q = some (.tup [.int (z.1 : Int), .int (z.2 : Int)]) := by
  induction h generalizing i with
  | nil => cases e
  | cons a _ ih =>
    cases i with
    | zero =>
      cases e
      exact ⟨_, rfl, a⟩
    | succ i => exact ih e
theorem PrsAt.put {H H' : Hp} {qs : List Addr} {r : List Pr} (h : PrsAt H qs r) (k : ∀ q xs, H q = some (.tup xs) → H' q = some (.tup xs)) : PrsAt H' qs r := by
  induction h with
  | nil => exact .nil
  | cons a _ ih => exact .cons (k _ _ a) ih
/-- at a stands a list of these stretches -/
def RowAt (H : Hp) (a : Addr) (r : List Pr) : Prop := ∃ qs : List Addr, H a = some (.lst (qs.map V.ref)) ∧ PrsAt H qs r
theorem RowAt.nw {P a : Addr} {H H' : Hp} {r : List Pr} (h : RowAt H a r) (x : Nw P H H') : RowAt H' a r := by
  obtain ⟨qs, e, p⟩ := h
  exact ⟨qs, x.lst e, p.put fun q xs e => x.tup e⟩
theorem RowAt.ne {P a : Addr} {H : Hp} {r : List Pr} (h : RowAt H a r) (t : GxR.TabG H P) : a ≠ P := by
  obtain ⟨qs, e, p⟩ := h
  exact tab_ne t e (fun q z => by cases z)
def prDat (z : Pr) : PyData := .tuple [.int (z.1 : Int), .int (z.2 : Int)]
def rowDat (r : List Pr) : PyData := .list (r.map prDat)
theorem PrsAt.dp {K : PySem.W.Frag} {H : Hp} {qs : List Addr} {r : List Pr} (h : PrsAt H qs r) : DpAll K H (qs.map V.ref) (r.map prDat) := by
  induction h with
  | nil => exact .nil
  | cons a _ ih => exact .cons (.tup (SqT.of a) (.cons (.int _) (.cons (.int _) .nil))) ih
theorem RowAt.dp {K : PySem.W.Frag} {H : Hp} {a : Addr} {r : List Pr} (h : RowAt H a r) : Dp K H (.ref a) (rowDat r) := by
  obtain ⟨qs, e, p⟩ := h
  exact .lst (SqL.of e) p.dp
end LL
namespace LL
open PySem PySem.Spec PyProof.Rows L2
def within : V → Int → Int → Bool
  | .int i, lo, hi => decide (lo ≤ i) && decide (i ≤ hi)
  | _, _, _ => false
def spanV : V → V → Nat → Bool
  | .int b, z, most => within (.int b) 0 most && within z (b + 1) most
  | _, _, _ => false
/-- whether a thing is a stretch -/
inductive StB (K : PySem.W.Frag) (H : Hp) : V → Bool → Prop
  | other {x : V} (h : IsTup K H x false) : StB K H x false
  | wrong {q : Addr} {xs : List V} (h : H q = some (.tup xs)) (n : xs.length ≠ 2) : StB K H (.ref q) false
  | pair {q : Addr} {y z : V} (h : H q = some (.tup [y, z])) (ty : Thing K H y) (tz : Thing K H z) : StB K H (.ref q) (spanV y z 400)
theorem atT0 (x : V) (xs : List V) : atI (x :: xs) 0 = some x := atI_nat (j := 0) rfl
theorem atT1 (x y : V) (xs : List V) : atI (x :: y :: xs) 1 = some y := atI_nat (j := 1) rfl
/-! ### rows as data -/
theorem prDat_eqv (z w : Pr) : PyData.eqv (prDat z) (prDat w) = decide (z = w) := by
  obtain ⟨a, b⟩ := z
  obtain ⟨a', b'⟩ := w
  have e : PyData.eqv (prDat (a, b)) (prDat (a', b')) = (((a : Int) == (a' : Int)) && (((b : Int) == (b' : Int)) && true)) := by simp only [prDat, PyData.eqv, PyData.eqvAll]
  rw [e]
  by_cases h : ((a, b) : Pr) = (a', b')
  · cases h
    simp
  · rw [decide_eq_false h]
    by_cases h1 : a = a'
    · by_cases h2 : b = b'
      · exact absurd (by rw [h1, h2]) h
      · have q : ((b : Int) == (b' : Int)) = false := beq_eq_false_iff_ne.mpr (by omega)
        rw [q, Bool.false_and, Bool.and_false]
    · have q : ((a : Int) == (a' : Int)) = false := beq_eq_false_iff_ne.mpr (by omega)
      rw [q, Bool.false_and]
theorem prDats_eqv : ∀ r q : List Pr, PyData.eqvAll (r.map prDat) (q.map prDat) = decide (r = q)
  | [], [] => by simp [PyData.eqvAll]
  | [], _ :: _ => by simp [PyData.eqvAll]
  | _ :: _, [] => by simp [PyData.eqvAll]
  | z :: r, w :: q => by
    have ih := prDats_eqv r q
    simp only [List.map_cons, PyData.eqvAll]
    rw [ih, prDat_eqv, Bool.eq_iff_iff]
    simp
theorem rowDat_eqv (r q : List Pr) : PyData.eqv (rowDat r) (rowDat q) = decide (r = q) := by
  simp only [rowDat, PyData.eqv]
  exact prDats_eqv r q
theorem prDats_lay : ∀ r : List Pr, PyData.canLayAll0 (r.map prDat) = true
  | [] => by simp [PyData.canLayAll0]
  | z :: r => by simp [PyData.canLayAll0, PyData.canLay0, prDat, prDats_lay r]
theorem prDats_depth : ∀ r : List Pr, PyData.depthAll (r.map prDat) ≤ 1
  | [] => by simp [PyData.depthAll]
  | z :: r => by
    have h1 := prDats_depth r
    simp only [List.map_cons, PyData.depthAll, prDat, PyData.depth]
    omega
theorem rowDat_shaped (r : List Pr) : SeqAt.shaped (rowDat r) = true := by
  have h1 := prDats_depth r
  have h2 : PyData.depth (rowDat r) ≤ 64 := by
    simp only [rowDat, PyData.depth]
    omega
  show (PyData.canLay0 (rowDat r) && decide (PyData.depth (rowDat r) ≤ 64)) = true
  rw [Bool.and_eq_true]
  exact ⟨by simp only [rowDat, PyData.canLay0]; exact prDats_lay r, decide_eq_true h2⟩
/-- all items of a row are stretches -/
theorem spanV_pr {z : Pr} (h : z.1 < z.2 ∧ z.2 ≤ 400) : spanV (.int (z.1 : Int)) (.int (z.2 : Int)) 400 = true := by
  simp only [spanV, within, Bool.and_eq_true, decide_eq_true_eq]
  omega
inductive StBs (K : PySem.W.Frag) (H : Hp) : List V → List Bool → Prop
  | nil : StBs K H [] []
  | cons {x : V} {b : Bool} {xs : List V} {bs : List Bool} (h : StB K H x b) (t : StBs K H xs bs) : StBs K H (x :: xs) (b :: bs)
theorem StBs.get {K : PySem.W.Frag} {H : Hp} {xs : List V} {bs : List Bool} (h : StBs K H xs bs) {i : Nat} {x : V} (e : xs[i]? = some x) : ∃ b, bs[i]? = some b ∧ StB K H x b := by
  induction h generalizing i with
  | nil => cases e
  | cons a _ ih =>
    cases i with
    | zero =>
      cases e
      exact ⟨_, rfl, a⟩
    | succ i => exact ih e
theorem StBs.len {K : PySem.W.Frag} {H : Hp} {xs : List V} {bs : List Bool} (h : StBs K H xs bs) : xs.length = bs.length := by
  induction h with
  | nil => rfl
  | cons _ _ ih => rw [List.length_cons, List.length_cons, ih]
theorem StB.pr {K : PySem.W.Frag} {H : Hp} {q : Addr} {z : Pr} (h : H q = some (.tup [.int (z.1 : Int), .int (z.2 : Int)])) (v : z.1 < z.2 ∧ z.2 ≤ 400) : StB K H (.ref q) true := by
  have x := StB.pair (K := K) h (.int _) (.int _)
  rw [spanV_pr v] at x
  exact x
theorem PrsAt.sts {K : PySem.W.Frag} {H : Hp} {qs : List Addr} {r : List Pr} (h : PrsAt H qs r) (v : Valid r) : StBs K H (qs.map V.ref) (r.map fun _ => true) := by
  induction h with
  | nil => exact .nil
  | cons a _ ih => exact .cons (StB.pr a (v _ List.mem_cons_self)) (ih fun z hz => v z (List.mem_cons_of_mem _ hz))
/-- a thing that is asked whether it is a tidy row -/
inductive RunsB (K : PySem.W.Frag) (H : Hp) : V → Bool → Prop
  | other {x : V} (h : IsLst K H x false) : RunsB K H x false
  | wrong {a : Addr} {xs : List V} {bs : List Bool} (h : H a = some (.lst xs)) (s : StBs K H xs bs) (n : bs.all id = false) : RunsB K H (.ref a) false
  | row {a : Addr} {r : List Pr} (h : RowAt H a r) (v : Valid r) : RunsB K H (.ref a) (decide (Tidy r))
theorem StB.keep {K : PySem.W.Frag} {H H' : Hp} {x : V} {b : Bool} (k : Keep H H') (h : StB K H x b) : StB K H' x b := by
  cases h with
  | other h => exact .other (h.keep k)
  | wrong h e => exact .wrong (k _ _ (fun q z => by cases z) h) e
  | pair h a b => exact .pair (k _ _ (fun q z => by cases z) h) (a.keep k) (b.keep k)
theorem StBs.keep {K : PySem.W.Frag} {H H' : Hp} {xs : List V} {bs : List Bool} (k : Keep H H') (h : StBs K H xs bs) : StBs K H' xs bs := by
  induction h with
  | nil => exact .nil
  | cons a _ ih => exact .cons (a.keep k) ih
theorem RowAt.keep {a : Addr} {H H' : Hp} {r : List Pr} (k : Keep H H') (h : RowAt H a r) : RowAt H' a r := by
  obtain ⟨qs, e, p⟩ := h
  exact ⟨qs, k _ _ (fun q z => by cases z) e, p.put fun q xs e => k _ _ (fun q z => by cases z) e⟩
theorem PrsAt.snoc {H : Hp} : ∀ {qs : List Addr} {r : List Pr} {z : Pr}, PrsAt H qs (r ++ [z]) → ∃ ps q, qs = ps ++ [q] ∧ PrsAt H ps r ∧ H q = some (.tup [.int (z.1 : Int), .int (z.2 : Int)])
  | [], [], _, h => nomatch h
  | [], _ :: _, _, h => nomatch h
  | q :: qs, [], z, h => by
    cases h with
    | cons a t =>
      cases t
      exact ⟨[], q, rfl, .nil, a⟩
  | q :: qs, y :: r, z, h => by
    cases h with
    | cons a t =>
      obtain ⟨ps, q', rfl, p, e⟩ := PrsAt.snoc t
      exact ⟨q :: ps, q', rfl, .cons a p, e⟩
theorem has_below {r : List Pr} {i : Nat} (v : Valid r) (h : ∀ n, has r n = true → n < i) : ∀ z ∈ r, z.2 ≤ i := fun z hz => by
  obtain ⟨a, b⟩ := v z hz
  have : has r (z.2 - 1) = true := List.any_eq_true.mpr ⟨z, hz, by rw [decide_eq_true (show z.1 ≤ z.2 - 1 by omega), decide_eq_true (show z.2 - 1 < z.2 by omega)]; rfl⟩
  have := h _ this
  omega
theorem snoc_of {r : List Pr} (h : r ≠ []) : ∃ q z, r = q ++ [z] := ⟨r.dropLast, r.getLast h, (List.dropLast_concat_getLast h).symm⟩
theorem TidyFrom.last : ∀ {r : List Pr} {b : Nat} {z y : Pr}, TidyFrom b (r ++ [z]) → y ∈ r ++ [z] → y.2 ≤ z.2
  | [], _, z, y, _, h => by
    rw [List.mem_singleton.mp h]
    exact Nat.le_refl _
  | w :: r, b, z, y, ⟨h1, h2, h3, h4⟩, h => by
    rcases List.mem_cons.mp h with rfl | h
    · obtain ⟨v1, _⟩ := h4.valid z (List.mem_append_right _ List.mem_cons_self)
      have : has (r ++ [z]) z.1 = true := by rw [has_app, has_cons, decide_eq_true (Nat.le_refl _), decide_eq_true v1]; simp
      have := (h4.low this).1
      omega
    · exact TidyFrom.last (r := r) h4 h
end LL
namespace LL
open PySem PySem.Spec PyProof.Rows L2
/-- a law's box: what is left of the cell, its rest, a count -/
def BoxO (o : HO) : Prop := ∃ x b c : Int, o = .lst [.int x, .int b, .int c] ∧ 0 ≤ x ∧ 0 ≤ b ∧ b < 4294967296
/-- the box at a may have changed, the rest is kept -/
structure Kept (a : Addr) (H H' : Hp) : Prop where
  box : ∃ o, H' a = some o ∧ BoxO o
  old : ∀ b o, b ≠ a → H b = some o → H' b = some o
theorem Kept.upd {a : Addr} {H : Hp} {o : HO} (h : BoxO o) : Kept a H (upd H a o) := ⟨⟨o, upd_same, h⟩, fun b _ n e => by rw [upd_ne n]; exact e⟩
theorem Kept.trans {a : Addr} {H H1 H2 : Hp} (x : Kept a H H1) (y : Kept a H1 H2) : Kept a H H2 := ⟨y.box, fun b o n e => y.old b o n (x.old b o n e)⟩
theorem Kept.refl {a : Addr} {H : Hp} (h : ∃ o, H a = some o ∧ BoxO o) : Kept a H H := ⟨h, fun _ _ _ e => e⟩
/-- a new object more -/
theorem Kept.new {a p : Addr} {H H1 : Hp} {u : HO} (x : Kept a H H1) (hp : H1 p = none) : Kept a H (L2.upd H1 p u) := by
  obtain ⟨⟨o, e, b⟩, old⟩ := x
  exact ⟨⟨o, by rw [upd_ne (ne_of_none e hp)]; exact e, b⟩, fun c v n q => by rw [upd_ne (ne_of_none (old c v n q) hp)]; exact old c v n q⟩
theorem at0 (x y z : V) : atI [x, y, z] 0 = some x := atI_nat (j := 0) rfl
theorem at1 (x y z : V) : atI [x, y, z] 1 = some y := atI_nat (j := 1) rfl
theorem at2 (x y z : V) : atI [x, y, z] 2 = some z := atI_nat (j := 2) rfl
theorem Kept.tab {a P : Addr} {H H' : Hp} (x : Kept a H H') (b : ∃ o, H a = some o ∧ BoxO o) (t : GxR.TabG H P) : GxR.TabG H' P := by
  obtain ⟨o, e, x0, y0, z0, rfl, _⟩ := b
  obtain ⟨ps, e2, t2⟩ := t
  exact ⟨ps, x.old P _ (fun z => by rw [z, e] at e2; cases e2) e2, t2⟩
/-- a box that is new since H0 -/
theorem Nw.kept {a P : Addr} {H0 H H' : Hp} (n : Nw P H0 H) (h : H0 a = none) (b : ∃ o, H a = some o ∧ BoxO o) (x : Kept a H H') : Nw P H0 H' :=
  ⟨n.was, x.tab b n.tab, fun c o m e => x.old c o (fun z => by rw [z, h] at e; cases e) (n.old c o m e)⟩
theorem RowAt.kept {a b : Addr} {H H' : Hp} {r : List Pr} (h : RowAt H b r) (bx : ∃ o, H a = some o ∧ BoxO o) (x : Kept a H H') : RowAt H' b r := by
  obtain ⟨o, e, x0, y0, z0, rfl, _⟩ := bx
  obtain ⟨qs, e1, p⟩ := h
  refine ⟨qs, x.old b _ (fun z => ?_) e1, p.put fun q xs e2 => x.old q _ (fun z => by rw [z, e] at e2; cases e2) e2⟩
  rw [z, e] at e1
  have := congrArg (fun u : Option HO => match u with | some (.lst (v :: _)) => some v | _ => none) e1
  cases qs with
  | nil => cases this
  | cons q qs => cases this
/-- nothing that stood is changed -/
def Exd (H H' : Hp) : Prop := ∀ b o, H b = some o → H' b = some o
theorem Exd.refl (H : Hp) : Exd H H := fun _ _ e => e
theorem Exd.trans {H H1 H2 : Hp} (x : Exd H H1) (y : Exd H1 H2) : Exd H H2 := fun b o e => y b o (x b o e)
theorem Exd.new {p : Addr} {H H1 : Hp} {u : HO} (x : Exd H H1) (hp : H1 p = none) : Exd H (L2.upd H1 p u) := fun b o e => by
  rw [upd_ne (ne_of_none (x b o e) hp)]
  exact x b o e
theorem Exd.put {p : Addr} {H H1 : Hp} {u : HO} (x : Exd H H1) (hp : H p = none) : Exd H (L2.upd H1 p u) := fun b o e => by
  rw [upd_ne (ne_of_none e hp)]
  exact x b o e
theorem Exd.nw {P : Addr} {H H' : Hp} (x : Exd H H') (t : GxR.TabG H P) : Nw P H H' := by
  obtain ⟨ps, e, t2⟩ := id t
  exact ⟨t, ⟨ps, x P _ e, t2⟩, fun b o _ e => x b o e⟩
theorem Exd.row {a : Addr} {H H' : Hp} {r : List Pr} (x : Exd H H') (h : RowAt H a r) : RowAt H' a r := h.keep fun b o _ e => x b o e
theorem Exd.kept {a : Addr} {H H' : Hp} (x : Exd H H') (b : ∃ o, H a = some o ∧ BoxO o) : Kept a H H' := by
  obtain ⟨o, e, bo⟩ := b
  exact ⟨⟨o, x a o e, bo⟩, fun c u _ q => x c u q⟩
theorem Exd.free {a : Addr} {H H' : Hp} (x : Exd H H') (e : H' a = none) : H a = none := by
  cases q : H a with
  | none => rfl
  | some o =>
    rw [x a o q] at e
    cases e
theorem Kept.free {a b : Addr} {H H' : Hp} (x : Kept a H H') (e : H' b = none) : H b = none := by
  cases q : H b with
  | none => rfl
  | some o =>
    by_cases z : b = a
    · obtain ⟨o', e', _⟩ := x.box
      rw [z, e'] at e
      cases e
    · rw [x.old b o z q] at e
      cases e
/-! ### four hundred marks -/
def marks (S : Nat → Bool) : List V := (List.range 400).map fun n => V.bl (S n)
theorem marks_len (S : Nat → Bool) : (marks S).length = 400 := by unfold marks; rw [List.length_map, List.length_range]
theorem marks_get (S : Nat → Bool) {n : Nat} (h : n < 400) : (marks S)[n]? = some (.bl (S n)) := by
  unfold marks
  rw [List.getElem?_map, List.getElem?_range h]
  rfl
theorem marks_at (S : Nat → Bool) {n : Nat} (h : n < 400) : atI (marks S) (n : Int) = some (.bl (S n)) := atI_nat (marks_get S h)
theorem flat_rep (n : Nat) (x : V) : (List.replicate n [x]).flatten = List.replicate n x := by
  induction n with
  | zero => rfl
  | succ n ih => rw [List.replicate_succ, List.flatten_cons, ih]; rfl
theorem marks_none : (List.replicate (400 : Int).toNat [V.bl false]).flatten = marks fun _ => false := by
  rw [flat_rep]
  unfold marks
  rw [List.map_const', List.length_range]
  rfl
theorem marks_set (S : Nat → Bool) (n : Nat) : (marks S).set n (V.bl true) = marks fun i => S i || decide (i = n) := by
  apply List.ext_getElem?
  intro i
  by_cases l : i < 400
  · rw [marks_get _ l, List.getElem?_set]
    by_cases e : n = i
    · subst e
      rw [if_pos rfl, if_pos (by rw [marks_len]; exact l), decide_eq_true rfl, Bool.or_true]
    · rw [if_neg e, marks_get _ l, decide_eq_false (fun z => e z.symm), Bool.or_false]
  · rw [List.getElem?_eq_none (by rw [List.length_set, marks_len]; omega), List.getElem?_eq_none (by rw [marks_len]; omega)]
theorem marks_ext {S T : Nat → Bool} (h : ∀ n, n < 400 → S n = T n) : marks S = marks T := by
  apply List.ext_getElem?
  intro i
  by_cases l : i < 400
  · rw [marks_get _ l, marks_get _ l, h i l]
  · rw [List.getElem?_eq_none (by rw [marks_len]; omega), List.getElem?_eq_none (by rw [marks_len]; omega)]
theorem marks_snoc (S : Nat → Bool) (n : Nat) : ((List.range (n + 1)).map fun i => V.bl (S i)) = ((List.range n).map fun i => V.bl (S i)) ++ [.bl (S n)] := by
  rw [List.range_succ, List.map_append]
  rfl
end LL
namespace LL
open PySem PySem.Spec PyProof.Rows L2
/-! ### what repr asks of data -/
/-- data of at most W bits and places, its whole numbers short -/
structure Sm (d : PyData) (k W : Nat) : Prop where
  lay : d.canLay0 = true
  sh : d.showable = true
  shrt : d.intsShort 13 = true
  dep : d.depth ≤ k
  wt : d.weight ≤ W
structure SmAll (ds : List PyData) (k W : Nat) : Prop where
  lay : PyData.canLayAll0 ds = true
  sh : PyData.showableAll ds = true
  shrt : PyData.intsShortAll 13 ds = true
  dep : PyData.depthAll ds ≤ k
  wt : PyData.weightAll ds ≤ W
theorem smAll_nil : SmAll [] 0 0 := ⟨rfl, rfl, rfl, Nat.le_refl _, Nat.le_refl _⟩
theorem SmAll.cons {d : PyData} {ds : List PyData} {k l W U : Nat} (h : Sm d k W) (t : SmAll ds l U) : SmAll (d :: ds) (max k l) (W + 1 + U) := by
  refine ⟨?_, ?_, ?_, ?_, ?_⟩
  · simp only [PyData.canLayAll0, h.lay, t.lay, Bool.and_self]
  · simp only [PyData.showableAll, h.sh, t.sh, Bool.and_self]
  · simp only [PyData.intsShortAll, h.shrt, t.shrt, Bool.and_self]
  · simp only [PyData.depthAll]
    have := h.dep
    have := t.dep
    omega
  · simp only [PyData.weightAll]
    have := h.wt
    have := t.wt
    omega
theorem SmAll.list {ds : List PyData} {k W : Nat} (t : SmAll ds k W) : Sm (.list ds) (k + 1) W :=
  ⟨by simp only [PyData.canLay0]; exact t.lay, by simp only [PyData.showable]; exact t.sh, by simp only [PyData.intsShort]; exact t.shrt, by simp only [PyData.depth]; have := t.dep; omega, by simp only [PyData.weight]; exact t.wt⟩
theorem SmAll.tuple {ds : List PyData} {k W : Nat} (t : SmAll ds k W) : Sm (.tuple ds) (k + 1) W :=
  ⟨by simp only [PyData.canLay0]; exact t.lay, by simp only [PyData.showable]; exact t.sh, by simp only [PyData.intsShort]; exact t.shrt, by simp only [PyData.depth]; have := t.dep; omega, by simp only [PyData.weight]; exact t.wt⟩
theorem Sm.mono {d : PyData} {k l W U : Nat} (h : Sm d k W) (a : k ≤ l) (b : W ≤ U) : Sm d l U := ⟨h.lay, h.sh, h.shrt, Nat.le_trans h.dep a, Nat.le_trans h.wt b⟩
theorem SmAll.mono {d : List PyData} {k l W U : Nat} (h : SmAll d k W) (a : k ≤ l) (b : W ≤ U) : SmAll d l U := ⟨h.lay, h.sh, h.shrt, Nat.le_trans h.dep a, Nat.le_trans h.wt b⟩
theorem smAll_of {ds : List PyData} {k W : Nat} (h : ∀ d ∈ ds, Sm d k W) : SmAll ds k ((W + 1) * ds.length) := by
  induction ds with
  | nil => exact smAll_nil.mono (Nat.zero_le _) (Nat.zero_le _)
  | cons d ds ih =>
    refine ((h d List.mem_cons_self).mono (Nat.le_refl _) (Nat.le_refl _) |> fun x => SmAll.cons x (ih fun y hy => h y (List.mem_cons_of_mem _ hy))).mono (by omega) ?_
    rw [List.length_cons, Nat.mul_succ]
    omega
theorem short_nat : ∀ n : Nat, n < 1001 → (PyData.shown (.int (n : Int))).length ≤ 13 := by decide +kernel
theorem bits_nat : ∀ n : Nat, n < 1001 → (PyData.weight (.int (n : Int))) ≤ 10 ∧ ((n : Int)).natAbs.log2 < 1920 := by decide +kernel
theorem sm_nat {n : Nat} (h : n ≤ 1000) : Sm (.int (n : Int)) 0 10 :=
  ⟨by simp only [PyData.canLay0], by simp only [PyData.showable]; exact decide_eq_true (bits_nat n (by omega)).2, by simp only [PyData.intsShort]; exact decide_eq_true (short_nat n (by omega)), by simp only [PyData.depth]; exact Nat.le_refl _, (bits_nat n (by omega)).1⟩
theorem sm_pr {z : Pr} (h : z.1 < z.2 ∧ z.2 ≤ 400) : Sm (prDat z) 1 22 :=
  (((sm_nat (by omega)).mono (Nat.le_refl _) (Nat.le_refl _) |> fun a => SmAll.cons a (SmAll.cons (sm_nat (n := z.2) (by omega)) smAll_nil)).tuple).mono (by decide) (by decide)
theorem sm_row {r : List Pr} (v : Valid r) (l : r.length ≤ 400) : Sm (rowDat r) 2 9200 := by
  have := (smAll_of (ds := r.map prDat) (k := 1) (W := 22) fun d hd => by
    obtain ⟨z, hz, rfl⟩ := List.mem_map.mp hd
    exact sm_pr (v z hz)).list
  refine this.mono (by decide) ?_
  rw [List.length_map]
  omega
theorem Sm.rep {d : PyData} {k W : Nat} (h : Sm d k W) (hk : k ≤ 60) (hW : W ≤ 1048576) : d.showable = true ∧ d.hasDict = false ∧ d.depth ≤ 60 ∧ d.shown.length ≤ sizeLine := by
  refine ⟨h.sh, PyData.hasDict_of_canLay d h.lay, Nat.le_trans h.dep hk, ?_⟩
  refine PyData.shown_fits (B := 13) (by decide) (by decide) (PyData.leavesShort_of_canLay0 13 d h.lay h.shrt) ?_
  have e : (2 : Nat) ^ 20 = 1048576 := by decide
  have := h.wt
  omega
theorem Sm.shaped {d : PyData} {k W : Nat} (h : Sm d k W) (hk : k ≤ 60) : SeqAt.shaped d = true := by
  show (d.canLay0 && decide (d.depth ≤ 64)) = true
  rw [h.lay, Bool.true_and]
  have := h.dep
  exact decide_eq_true (by omega)
/-- repr of such data -/
theorem call_reprM {X : Cx} (guard : X.A.guards = some []) {k : Nat} (room : Room k X.A) : CallR X (.builtin "repr") (fun xs H Q => ∃ v d, xs = [v] ∧ Dp X.K H v d ∧ isDisplay d = true ∧ Sm d 60 1048576 ∧ Q (.str d.shown) H) := by
  intro pins s σ H xs us Q I r ⟨v, d, e, dp, di, sm, q⟩
  obtain ⟨a, b, c, l⟩ := sm.rep (Nat.le_refl _) (Nat.le_refl _)
  exact call_reprD guard room pins s σ H xs us Q I r ⟨v, d, e, dp, di, a, b, c, l, q⟩
/-! ### lists of rows -/
inductive RowsAt (H : Hp) : List Addr → List (List Pr) → Prop
  | nil : RowsAt H [] []
  | cons {a : Addr} {as : List Addr} {r : List Pr} {rs : List (List Pr)} (h : RowAt H a r) (t : RowsAt H as rs) : RowsAt H (a :: as) (r :: rs)
theorem RowsAt.dp {K : PySem.W.Frag} {H : Hp} {as : List Addr} {rs : List (List Pr)} (h : RowsAt H as rs) : DpAll K H (as.map V.ref) (rs.map rowDat) := by
  induction h with
  | nil => exact .nil
  | cons a _ ih => exact .cons a.dp ih
theorem RowsAt.keep {H H' : Hp} {as : List Addr} {rs : List (List Pr)} (k : Keep H H') (h : RowsAt H as rs) : RowsAt H' as rs := by
  induction h with
  | nil => exact .nil
  | cons a _ ih => exact .cons (a.keep k) ih
def rowsDat (rs : List (List Pr)) : PyData := .list (rs.map rowDat)
theorem rows_dp {K : PySem.W.Frag} {H : Hp} {p : Addr} {as : List Addr} {rs : List (List Pr)} (e : H p = some (.lst (as.map V.ref))) (h : RowsAt H as rs) : Dp K H (.ref p) (rowsDat rs) := .lst (SqL.of e) h.dp
theorem sm_rows {rs : List (List Pr)} (h : ∀ r ∈ rs, Valid r ∧ r.length ≤ 400) (l : rs.length ≤ 100) : Sm (rowsDat rs) 60 1048576 := by
  have := (smAll_of (ds := rs.map rowDat) (k := 2) (W := 9200) fun d hd => by
    obtain ⟨r, hr, rfl⟩ := List.mem_map.mp hd
    exact sm_row (h r hr).1 (h r hr).2).list
  refine this.mono (by decide) ?_
  rw [List.length_map]
  omega
theorem eqvs_rows : ∀ rs qs : List (List Pr), PyData.eqvAll (rs.map rowDat) (qs.map rowDat) = decide (rs = qs)
  | [], [] => by simp [PyData.eqvAll]
  | [], _ :: _ => by simp [PyData.eqvAll]
  | _ :: _, [] => by simp [PyData.eqvAll]
  | r :: rs, q :: qs => by
    have ih := eqvs_rows rs qs
    simp only [List.map_cons, PyData.eqvAll]
    rw [ih, rowDat_eqv, Bool.eq_iff_iff]
    simp
theorem rowsDat_eqv (rs qs : List (List Pr)) : PyData.eqv (rowsDat rs) (rowsDat qs) = decide (rs = qs) := by
  simp only [rowsDat, PyData.eqv]
  exact eqvs_rows rs qs
theorem RowAt.upd {H : Hp} {a d : Addr} {r : List Pr} {xs ys : List V} (h : RowAt H a r) (n : a ≠ d) (e : H d = some (.lst xs)) : RowAt (L2.upd H d (.lst ys)) a r := by
  obtain ⟨qs, e1, p⟩ := h
  exact ⟨qs, by rw [upd_ne n]; exact e1, p.put fun q zs e2 => by rw [upd_ne (ne_of e2 e (by intro z; cases z))]; exact e2⟩
theorem RowsAt.upd {H : Hp} {as : List Addr} {d : Addr} {rs : List (List Pr)} {xs ys : List V} (h : RowsAt H as rs) (n : ∀ a ∈ as, a ≠ d) (e : H d = some (.lst xs)) : RowsAt (L2.upd H d (.lst ys)) as rs := by
  induction h with
  | nil => exact .nil
  | cons a _ ih => exact .cons (a.upd (n _ List.mem_cons_self) e) (ih fun a ha => n a (List.mem_cons_of_mem _ ha))
theorem RowsAt.app {H : Hp} {as bs : List Addr} {rs qs : List (List Pr)} (h : RowsAt H as rs) (g : RowsAt H bs qs) : RowsAt H (as ++ bs) (rs ++ qs) := by
  induction h with
  | nil => exact g
  | cons a _ ih => exact .cons a ih
theorem Exd.rows {H H' : Hp} {as : List Addr} {rs : List (List Pr)} (x : Exd H H') (h : RowsAt H as rs) : RowsAt H' as rs := h.keep fun b o _ e => x b o e
theorem marks_ne {H : Hp} {d x : Addr} {xs : List V} {S : Nat → Bool} (e1 : H d = some (.lst xs)) (e2 : H x = some (.lst (marks S))) (n : xs.length < 400) : d ≠ x := fun z => by
  rw [z, e2] at e1
  injection e1 with e1
  injection e1 with e1
  rw [← e1, marks_len] at n
  exact Nat.lt_irrefl _ n
/-- [f(k) for k in range(400)], True or False each -/
theorem lc_marks {j : Nat} {te : TE} {vs : List Nat} {σ : L2.St} {H1 : Hp} {D : Addr} {Qd : Hp → Prop} (f : Nat → Bool) (hw : ∀ v : V, wipe ((wipe σ vs).set j (some v)) vs = wipe σ vs)
    (hs : ∀ (i : Nat) (H' : Hp) (Q : VK), i < 400 → H' = upd H1 D (.lst ((List.range i).map fun n => V.bl (f n))) → Q (.bl (f i)) H' → te ((wipe σ vs).set j (some (.int ((0 : Int) + (i : Int))))) H' Q) (hd : Qd (upd H1 D (.lst (marks f)))) :
    ∃ W : Nat → Nat → Hp → Prop, (∃ m, W 0 m (upd H1 D (.lst []))) ∧ ∀ i m H, W i m H →
      ((Itr 0 (400 : Int).toNat).stop i H ∧ Qd H) ∨ ((Itr 0 (400 : Int).toNat).go i H ∧ ∃ Nx : Hp → Prop, (∀ H', Nx H' → ∃ m', m' < m ∧ W (i + 1) m' H') ∧ ∀ x H', (Itr 0 (400 : Int).toNat).yld i H x H' → gName j x (wipe σ vs) H' fun σ2 H2 => wipe σ2 vs = wipe σ vs ∧ tYes σ2 H2 fun b H3 =>
        if b = true then te σ2 H3 fun y H4 => ∃ acc, H4 D = some (.lst acc) ∧ acc.length < sizeLine ∧ Nx (upd H4 D (.lst (acc ++ [y]))) else Nx H3) := by
  refine lc_range (lo := 0) (fun i H' => H' = upd H1 D (.lst ((List.range i).map fun n => V.bl (f n)))) rfl ?_ ?_
  · intro i H' hi e
    have hi : i < 400 := hi
    refine ⟨hw _, ?_⟩
    refine hs i H' (fun y H4 => ∃ acc, H4 D = some (.lst acc) ∧ acc.length < sizeLine ∧ upd H4 D (.lst (acc ++ [y])) = upd H1 D (.lst ((List.range (i + 1)).map fun n => V.bl (f n)))) hi e ⟨_, by rw [e]; exact upd_same, ?_, ?_⟩
    · rw [List.length_map, List.length_range]
      have := PySem.sizeLine_eq
      omega
    · rw [e, upd_upd, marks_snoc]
  · intro H' e
    have e : H' = upd H1 D (.lst (marks f)) := e
    rw [e]
    exact hd
theorem RowsAt.kept {a : Addr} {H H' : Hp} {as : List Addr} {rs : List (List Pr)} (h : RowsAt H as rs) (bx : ∃ o, H a = some o ∧ BoxO o) (x : Kept a H H') : RowsAt H' as rs := by
  induction h with
  | nil => exact .nil
  | cons r _ ih => exact .cons (r.kept bx x) ih
theorem RowsAt.nw {P : Addr} {H H' : Hp} {as : List Addr} {rs : List (List Pr)} (h : RowsAt H as rs) (x : Nw P H H') : RowsAt H' as rs := h.keep x.keep
theorem sqL_nw {P : Addr} {H H' : Hp} {K : PySem.W.Frag} {a : Addr} {xs : List V} (x : Nw P H H') (h : SqL K H a xs) : SqL K H' a xs := by
  rcases h with h | h
  · refine .inl ?_
    rcases h with h | ⟨o, h⟩
    · exact .inl (x.keep _ _ (fun q z => by cases z) h)
    · exact .inr ⟨o, x.keep _ _ (fun q z => by cases z) h⟩
  · exact .inr h
/-- [e for x in range(lo, .., c)] -/
theorem lc_step {lo c : Int} {n : Nat} {g : TG} {tt : TT} {te : TE} {vs : List Nat} {σ : L2.St} {H1 : Hp} {D : Addr} {Qd : Hp → Prop} (J : Nat → Hp → Prop) (first : J 0 (upd H1 D (.lst [])))
    (turn : ∀ i H, i < n → J i H → g (.int (lo + (i : Nat) * c)) (wipe σ vs) H fun σ2 H2 => wipe σ2 vs = wipe σ vs ∧ tt σ2 H2 fun b H3 =>
      if b = true then te σ2 H3 fun y H4 => ∃ acc, H4 D = some (.lst acc) ∧ acc.length < sizeLine ∧ J (i + 1) (upd H4 D (.lst (acc ++ [y]))) else J (i + 1) H3) (last : ∀ H, J n H → Qd H) :
    ∃ W : Nat → Nat → Hp → Prop, (∃ m, W 0 m (upd H1 D (.lst []))) ∧ ∀ i m H, W i m H →
      ((Itc lo c n).stop i H ∧ Qd H) ∨ ((Itc lo c n).go i H ∧ ∃ Nx : Hp → Prop, (∀ H', Nx H' → ∃ m', m' < m ∧ W (i + 1) m' H') ∧ ∀ x H', (Itc lo c n).yld i H x H' → g x (wipe σ vs) H' fun σ2 H2 => wipe σ2 vs = wipe σ vs ∧ tt σ2 H2 fun b H3 =>
        if b = true then te σ2 H3 fun y H4 => ∃ acc, H4 D = some (.lst acc) ∧ acc.length < sizeLine ∧ Nx (upd H4 D (.lst (acc ++ [y]))) else Nx H3) := by
  refine ⟨fun i m H => m = n - i ∧ i ≤ n ∧ J i H, ⟨n, by simp, Nat.zero_le _, first⟩, ?_⟩
  rintro i m H ⟨rfl, le, j⟩
  rcases Nat.lt_or_ge i n with lt | ge
  · refine .inr ⟨lt, J (i + 1), fun H' j' => ⟨n - (i + 1), by omega, rfl, lt, j'⟩, fun x H' y => ?_⟩
    obtain ⟨rfl, rfl⟩ := y
    exact turn i _ lt j
  · obtain rfl : i = n := by omega
    exact .inl ⟨Nat.le_refl _, last H j⟩
end LL
namespace LL
open PySem PySem.Spec PyProof.Rows L2
/-! ### list(reversed(x)), x a list -/
section
variable {prog : Program} {w : World} {A : Around} {E : Value → Shared → Prop} {s : Shared} {it l : Addr} {ys : Array Value}
/-- what a list drew from such an iterator -/
def BackOf (ys acc : Array Value) : Prop := ItemsOf (fun i v => ys[ys.size - 1 - i]? = some v) acc ys.size
theorem back_extend {Rr : Result → Shared → Prop} (calm : A.handled = none) (ri : s.heap.IsRevIter it l ((ys.size : Int) - 1)) (li : s.heap.IsList l ys) (ne : l ≠ it) (few : ys.size ≤ sizeLine)
    (S : Addr) (Si : S ≠ it) (Sl : S ≠ l) (res : Value) (c0 : Nat) (eS : s.heap.get? S = some { cls := .type "list", data := .seq #[] c0 })
    (fin : ∀ h' tk acc c', (∀ b o, b ≠ S → b ≠ it → s.heap.get? b = some o → h'.get? b = some o) → h'.get? S = some { cls := .type "list", dict := none, data := .seq acc c', slots := #[] } → BackOf ys acc →
      Rr (.ok (.ret res)) { s with heap := h', toks := tk }) :
    wpAny (model prog w) A.in1 (Builtin.List.listExtendWith (.ref S) (.ref it) res)
      (fun z s' => match z with | .done f => Rr (.ok f) s' | .again c' => c'.quiet = true ∧ codeAny (model prog w) A c' Rr s') (fun e s' => Rr (.error e) s') s := by
  have W := (Walks.listRev (prog := prog) (w := w) (A := A.in1) calm it l ne ys).toS
  have notIn : S ∉ [it, l] := by
    simp only [List.mem_cons, List.not_mem_nil, or_false, not_or]
    exact ⟨Si, Sl⟩
  have ty : s.TypeIs (.ref it) "list_reverseiterator" := ri.typeIs
  have other : Builtin.List.listSameRef (.ref S) (.ref it) = false := by simp [Builtin.List.listSameRef, Si]
  have e0 : ((ys.size : Nat) : Int) - 1 - ((0 : Nat) : Int) = (ys.size : Int) - 1 := by omega
  unfold Builtin.List.listExtendWith
  refine wpAny_bind (wpAny_typeOf ty ?_)
  rw [if_neg (by rw [other]; decide)]
  refine wpAny_bind (wpAny_pyIter_revIter ri ?_)
  refine wpAny_bind (wpAny_holding ?_)
  unfold Builtin.List.listLengthHint
  refine wpAny_bind (wpAny_specialOf ty RT.nolen_lri ?_)
  refine (show wpAny _ A.in1 (specialOf (Value.ref it) (Str.ofString "__length_hint__") >>= _) _ _ _ from ?_)
  refine wpAny_bind (wpAny_specialOf ty RT.hint_lri ?_)
  generalize hid : ("list_reverseiterator.__length_hint__" : String) = id0
  wp_delta
  rw [show splitId id0 = some ("list_reverseiterator", "__length_hint__") from by subst hid; decide +kernel]
  subst hid
  refine wpAny_bind (wpAny_isInstance (b := true) ty (by rw [isSubtype_type]; kernel_rfl) ?_)
  refine wpAny_pure ?_
  rw [if_neg (by decide)]
  refine wpAny_pure ⟨plainId_quiet F.plain_extend_loop _, codeAny_extend_loopS W few _ notIn _ ys.size 0 _ _ _ rfl (Nat.zero_le _) ⟨Nat.zero_le _, by rw [e0]; exact ri, li⟩ eS (ItemsOf.nil _) fun s' acc c' mv eS' got => ?_⟩
  rw [Moved.eq_with mv]
  refine fin s'.heap s'.toks acc c' (fun b o n1 n2 e => mv.heap b o (fun m => ?_) e) eS' got
  rcases List.mem_cons.mp m with q | m
  · exact n1 q
  · exact n2 (List.mem_singleton.mp m)
theorem back_init {Rr : Result → Shared → Prop} (calm : A.handled = none) (ri : s.heap.IsRevIter it l ((ys.size : Int) - 1)) (li : s.heap.IsList l ys) (ne : l ≠ it) (few : ys.size ≤ sizeLine)
    (S : Addr) (Si : S ≠ it) (Sl : S ≠ l) (eS : s.heap.get? S = some { cls := .type "list", data := .seq #[] })
    (fin : ∀ h' tk acc c', (∀ b o, b ≠ S → b ≠ it → s.heap.get? b = some o → h'.get? b = some o) → h'.get? S = some { cls := .type "list", dict := none, data := .seq acc c', slots := #[] } → BackOf ys acc →
      Rr (.ok (.ret .none)) { s with heap := h', toks := tk }) :
    wpAny (model prog w) A.in1 (Builtin.«list.__init__» ⟨[.ref S, .ref it], []⟩)
      (fun z s' => match z with | .done f => Rr (.ok f) s' | .again c' => c'.quiet = true ∧ codeAny (model prog w) A c' Rr s') (fun e s' => Rr (.error e) s') s := by
  refine (show wpAny _ _ (do let old ← Builtin.List.listItems (.ref S); Builtin.List.listUpdate (.ref S) (fun _ => #[]); letGo old.toList.reverse; Builtin.List.listExtendWith (.ref S) (.ref it) .none) _ _ s from ?_)
  refine wpAny_bind ?_
  unfold Builtin.List.listItems
  refine wpAny_bind (wpAny_seqItems eS rfl (wpAny_pure ?_))
  refine (show wpAny _ _ (updateSeq S (fun _ => #[]) >>= fun _ => letGo (#[] : Array Value).toList.reverse >>= fun _ => Builtin.List.listExtendWith (.ref S) (.ref it) .none) _ _ s from ?_)
  refine wpAny_bind (wpAny_updateSeq eS rfl ?_)
  have eS2 := Heap.get?_update_self (Obj.mapSeq (fun _ => (#[] : Array Value))) eS rfl
  have rest : ∀ b o, b ≠ S → s.heap.get? b = some o → (s.heap.update S (Obj.mapSeq (fun _ => (#[] : Array Value)))).get? b = some o :=
    fun b o n e => (Heap.get?_update_other _ _ n.symm).trans e
  refine wpAny_bind (wpAny_letGo ?_)
  refine back_extend calm (ri.at fun o e => rest it o Si.symm e) ?_ ne few S Si Sl .none _ eS2 fun h' tk acc c' k eS' got => ?_
  · obtain ⟨o, e, c, n, d⟩ := li
    exact ⟨o, rest l o Sl.symm e, c, n, d⟩
  · exact fin h' tk acc c' (fun b o n1 n2 e => k b o n1 n2 (rest b o n1 e)) eS' got
theorem back_list {Q : Value → Shared → Prop} (calm : A.handled = none) (ri : s.heap.IsRevIter it l ((ys.size : Int) - 1)) (li : s.heap.IsList l ys) (ne : l ≠ it) (few : ys.size ≤ sizeLine)
    (fin : ∀ h' tk acc c', (∀ b o, b ≠ it → s.heap.get? b = some o → h'.get? b = some o) → h'.get? s.heap.objs.size = some { cls := .type "list", dict := none, data := .seq acc c', slots := #[] } → BackOf ys acc →
      Q (.ref s.heap.objs.size) { s with heap := h', toks := tk }) : wpAny (model prog w) A (call (.type "list") [.ref it]) Q E s := by
  refine callType_codes (Q₁ := fun obj s1 => obj = .ref s.heap.objs.size ∧ s1 = { s with heap := s.heap.push { cls := .type "list", data := .seq #[] } }) F.called_list (F.typeCall_list_1 _) F.entry_list_init
    (code_list_new _ ⟨rfl, rfl⟩) fun obj s1 h1 => ?_
  obtain ⟨rfl, rfl⟩ := h1
  obtain ⟨oi, hoi, _⟩ := id ri
  obtain ⟨ol, hol, _⟩ := id li
  have eS : (s.heap.push { cls := .type "list", data := .seq #[] }).get? s.heap.objs.size = some { cls := .type "list", data := .seq #[] } := Heap.get?_push_size _ rfl
  refine ⟨⟨_, eS, rfl⟩, F.args_list_init_2 _ _, back_init (A := A.in1) calm (ri.at fun o e => Heap.get?_push_of_some _ e) (li.push _) ne few _ (Nat.ne_of_gt (Heap.lt_size hoi)) (Nat.ne_of_gt (Heap.lt_size hol)) eS fun h' tk acc c' k eS' got => ?_⟩
  exact ⟨rfl, fin h' tk acc c' (fun b o n e => k b o (Nat.ne_of_lt (Heap.lt_size e)) n (Heap.get?_push_of_some _ e)) eS' got⟩
end
section
variable {X : Cx}
/-- list(reversed(x)), x a list: a new list -/
def tLstRev (K : PySem.W.Frag) (te : TE) : TE := fun σ H Q => te σ H fun v H1 => ∃ (a : Addr) (xs : List V), v = .ref a ∧ SqL K H1 a xs ∧ ∀ q, H1 q = none → Q (.ref q) (upd H1 q (.lst xs.reverse))
theorem pe_lstRev {e : Expr} {te : TE} {p p2 pos pos2 : Pos} (calm : X.calm = true) (g1 : Gl X "list") (m1 : X.mg "list" = none) (g2 : Gl X "reversed") (m2 : X.mg "reversed" = none) (he : PE X e te)
    (n1 : starEach [e] X.env = (false, eval e X.env) :: starEach [] X.env := by rfl)
    (n2 : starEach [.Call (.Name "reversed" p2) [e] [] pos2] X.env = (false, eval (.Call (.Name "reversed" p2) [e] [] pos2) X.env) :: starEach [] X.env := by rfl) :
    PE X (.Call (.Name "list" p) [.Call (.Name "reversed" p2) [e] [] pos2] [] pos) (tLstRev X.K te) := by
  refine ⟨fun pins s σ H Q I h => ?_⟩
  refine Call_ (ld_blt I g1 m1 boot_list (PyProof.Rows.callWith_type1 (args_cons (Call_ (ld_blt I g2 m2 PyProof.Rows.boot_reversed (PyProof.Rows.callWith_type1 (args_cons (thn (he.run pins s σ H _ I h) fun u r1 ⟨v, H1, J, ru, want⟩ => args_nil ?_) n1) n1 rfl))) n2) n2 rfl))
  obtain ⟨a, xs, rfl, sq, q⟩ := want
  obtain rfl : u = Value.ref a := ru
  obtain ⟨its, rv, pl, hz⟩ := J.list sq
  refine call_reversed_list pl.isList (args_nil ?_)
  have k0 : ∀ b o, r1.heap.get? b = some o → (r1.heap.push (revObj a ((its.toArray.size : Int) - 1))).get? b = some o := fun b o e => Heap.get?_push_of_some _ e
  have J2 : Inv X pins σ H1 { r1 with heap := r1.heap.push (revObj a ((its.toArray.size : Int) - 1)) } := J.kept (t' := r1.toks) k0
  obtain ⟨f0, f1, f2, f3, f4, f5⟩ := J.fpOk (H' := H1) (b := r1.heap.objs.size) (Nat.le_refl _) (J.hok.fresh (Nat.le_refl _))
  have li := pl.isList
  obtain ⟨ol, hol, _⟩ := id li
  have ne : a ≠ r1.heap.objs.size := Nat.ne_of_lt (Heap.lt_size hol)
  have few : its.toArray.size ≤ sizeLine := by rw [List.size_toArray, ← rv.length]; exact hz
  have sz : (r1.heap.push (revObj a ((its.toArray.size : Int) - 1))).objs.size = r1.heap.objs.size + 1 := Heap.size_push ..
  have no : H1 (r1.heap.objs.size + 1) = none := J.hok.fresh (Nat.le_succ _)
  refine back_list (s := { r1 with heap := r1.heap.push (revObj a ((its.toArray.size : Int) - 1)) }) (J.ok.hd calm) ⟨_, Heap.get?_push_size _ rfl, rfl, rfl⟩ (li.push _) ne few fun h' tk acc c' k eS got => ?_
  have rest : acc.toList = its.reverse := by
    have hs : its.toArray.size = its.length := List.size_toArray
    have hl : acc.toList.length = its.length := by rw [Array.length_toList, got.1, hs]
    apply List.ext_getElem?
    intro j
    by_cases hj : j < its.length
    · have hja : j < acc.toList.length := by omega
      have e1 : acc.toList[j]? = some acc.toList[j] := List.getElem?_eq_getElem hja
      have e2 : its.toArray[its.toArray.size - 1 - j]? = some acc.toList[j] := got.2 j _ (by rw [← Array.getElem?_toList]; exact e1)
      rw [e1, List.getElem?_reverse hj, ← e2, hs]
      simp
    · rw [List.getElem?_eq_none (by omega), List.getElem?_eq_none (by rw [List.length_reverse]; omega)]
  have J3 := J2.turnedNew (h' := h') (t' := tk) (ch := [r1.heap.objs.size]) (T := (r1.heap.push (revObj a ((its.toArray.size : Int) - 1))).objs.size) (ob := .lst xs.reverse) (fun b o n e => k b o (fun z => n (by rw [z]; exact List.mem_singleton.mpr rfl)) e)
    (fun b hb => by
      obtain rfl := List.mem_singleton.mp hb
      exact ⟨f0, f1, f2, f3, f4, f5⟩) (Nat.le_refl _) (show ObjOk X.prog X.w _ _ _ (.lst xs.reverse) from ⟨by rw [List.length_reverse]; exact hz, acc.toList, c', by rw [rest]; exact rv.reverse, by rw [Array.toArray_toList]; exact eS⟩)
  exact ⟨.ref _, _, J3, rfl, q _ (J2.hok.fresh (Nat.le_refl _))⟩
/-! ### list(range(i, j, c)) -/
def steps (i c : Int) (n : Nat) : List V := (List.range n).map fun k => V.int (i + (k : Nat) * c)
theorem vals_steps {i c : Int} {n : Nat} {acc : Array Value} (h : ItemsOf (fun k v => ∃ t, v = .int (i + k * c) t) acc n) : Vals (steps i c n) acc.toList := by
  have e : acc.toList.length = n := by rw [Array.length_toList]; exact h.1
  unfold steps
  rw [← e]
  refine vals_of_get acc.toList _ fun j u hj => ?_
  obtain ⟨t, rfl⟩ := h.2 j u (by rw [← hj, Array.getElem?_toList])
  exact ⟨t, rfl⟩
def tLstStep (ta : TA) : TE := fun σ H Q => ta σ H fun vs H1 => ∃ (i j c : Int) (n : Nat), vs = [.int i, .int j, .int c] ∧ RgC i j c n ∧ n ≤ 16777216 ∧ ∀ q, H1 q = none → Q (.ref q) (upd H1 q (.lst (steps i c n)))
theorem pe_lstStep {a b c : Expr} {ta : TA} {p p2 pos pos2 : Pos} (calm : X.calm = true) (g1 : Gl X "list") (m1 : X.mg "list" = none) (g2 : Gl X "range") (m2 : X.mg "range" = none) (ha : PA X [a, b, c] ta)
    (n1 : starEach [a, b, c] X.env = (false, eval a X.env) :: starEach [b, c] X.env := by rfl) (n2 : (backTo pos2 (starEach [b, c] X.env)).any (·.1) = false := by rfl)
    (n3 : starEach [.Call (.Name "range" p2) [a, b, c] [] pos2] X.env = (false, eval (.Call (.Name "range" p2) [a, b, c] [] pos2) X.env) :: starEach [] X.env := by rfl) :
    PE X (.Call (.Name "list" p) [.Call (.Name "range" p2) [a, b, c] [] pos2] [] pos) (tLstStep ta) := by
  refine ⟨fun pins s σ H Q I h => ?_⟩
  refine Call_ (ld_blt I g1 m1 boot_list (PyProof.Rows.callWith_type1 (args_cons (Call_ (ld_blt I g2 m2 boot_range (PyProof.Rows.callWith_type1 (thn (ha.run pos2 pins s σ H _ I h) fun us r1 ⟨vs, H1, J, rv, want⟩ => ?_) n1 n2))) n3) n3))
  obtain ⟨i, j, k, n, rfl, ⟨c0, c1, c2, c3⟩, few, q⟩ := want
  cases rv with
  | cons r rr =>
    cases rr with
    | cons r' rr =>
      cases rr with
      | cons r'' rr =>
        cases rr
        obtain ⟨t, rfl⟩ := r
        obtain ⟨t', rfl⟩ := r'
        obtain ⟨t'', rfl⟩ := r''
        refine call_range_3 c0 (args_nil ?_) (.inl (PyProof.noPylong_small c1))
        have J2 : Inv X pins σ H1 { r1 with heap := r1.heap.push { cls := .type "range", data := .fields #[.int i t, .int j t', .int k t''] } } := J.kept (t' := r1.toks) fun b o e => Heap.get?_push_of_some _ e
        refine call_list_range (n := n) (J.ok.hd calm) (IsRange.new ..) c2 c3 (by omega) fun h' tk acc c' keep eS got => ?_
        refine ⟨.ref _, _, J2.laid (t' := tk) (o := .lst (steps i k n)) keep (Nat.le_refl _) ⟨?_, acc.toList, c', vals_steps got, ?_⟩, rfl, q _ (J2.hok.fresh (Nat.le_refl _))⟩
        · unfold steps
          rw [List.length_map, List.length_range, sizeLine_eq]
          exact few
        · rw [Array.toArray_toList]
          exact eS
/-- for x in xs, a list or a tuple -/
def iSeq (K : PySem.W.Frag) (tl : TE) : TI := fun σ H R => tl σ H fun x H1 => ∃ a, x = .ref a ∧ (((∃ xs, SqL K H1 a xs) ∧ R (Itl K a) H1) ∨ ((∃ xs, SqT K H1 a xs) ∧ R (Itt K a) H1))
theorem pi_seq {tg l : Expr} {tl : TE} (hl : PE X l tl) : PI X tg l (iSeq X.K tl) := by
  refine ⟨fun pins s σ H R I h => ?_⟩
  refine thn (hl.run pins s σ H _ I h) fun v s1 ⟨x, H1, J, rv, want⟩ => ?_
  obtain ⟨a, rfl, want⟩ := want
  obtain rfl : v = Value.ref a := rv
  have fresh : ∀ ob : Obj, ∀ b ∈ [s1.heap.objs.size], FpOk X pins H1 b := fun ob b hb => by
    obtain rfl := List.mem_singleton.mp hb
    exact J.fpOk (Nat.le_refl _) (J.hok.fresh (Nat.le_refl _))
  rcases want with ⟨⟨xs, sq⟩, q⟩ | ⟨⟨xs, sq⟩, q⟩
  · obtain ⟨its, rs, pl, _⟩ := J.list sq
    refine wpAny_pyIter_list pl.isList ?_
    exact ⟨s1.heap.objs.size, [s1.heap.objs.size], _, _, H1, rfl, J.kept (t' := s1.toks) fun b o e => Heap.get?_push_of_some _ e, turn_list a _, ⟨_, Heap.get?_push_size _ rfl, rfl, rfl⟩, fresh default, q⟩
  · obtain ⟨its, rs, pl, _⟩ := J.tuple sq
    refine wpAny_pyIter_tuple (show s1.heap.IsTuple a its.toArray from pl) ?_
    exact ⟨s1.heap.objs.size, [s1.heap.objs.size], _, _, H1, rfl, J.kept (t' := s1.toks) fun b o e => Heap.get?_push_of_some _ e, turn_tuple a _, ⟨_, Heap.get?_push_size _ rfl, rfl, rfl⟩, fresh default, q⟩
/-- isinstance(x, (list, tuple)) -/
inductive IsSeq (K : PySem.W.Frag) (H : Hp) : V → Bool → Prop
  | non : IsSeq K H .non false
  | bl (b : Bool) : IsSeq K H (.bl b) false
  | int (i : Int) : IsSeq K H (.int i) false
  | str (z : Str) : IsSeq K H (.str z) false
  | lst {a : Addr} (h : TyX K H (.ref a) (.type "list")) : IsSeq K H (.ref a) true
  | tup {a : Addr} (h : TyX K H (.ref a) (.type "tuple")) : IsSeq K H (.ref a) true
  | dct {a : Addr} (h : TyX K H (.ref a) (.type "dict")) : IsSeq K H (.ref a) false
theorem kit_lt {K : PySem.W.Frag} {a : String} {x y r : Bool} (h1 : kitB a "list" = some x) (h2 : kitB a "tuple" = some y) (e : r = (x || y)) : PySem.W.kitAny K (.type a) [.type "list", .type "tuple"] = some r := by
  refine kitAny_cons (kit_ty h1) (fun z => ?_) (fun z => by rw [e, z]; rfl)
  refine kitAny_cons (kit_ty h2) (fun z2 => ?_) (fun z2 => by rw [e, z2, Bool.or_true])
  rw [e, z, z2]
  exact kitAny_nil
theorem isi_seq {K : PySem.W.Frag} {H : Hp} {x : V} {b : Bool} {tp : Addr} {Q : VK} (ht : H tp = some (.tup [.ty "list", .ty "tuple"])) (h : IsSeq K H x b) (q : Q (.bl b) H) : rIsiT K [x, .ref tp] H Q := by
  have two : Paired ClsV [.ty "list", .ty "tuple"] [.type "list", .type "tuple"] := .cons (.ty _) (.cons (.ty _) .nil)
  cases h with
  | non => exact ⟨_, _, _, _, _, _, rfl, ht, two, .base .non, kit_lt (x := false) (y := false) (by decide +kernel) (by decide +kernel) rfl, q⟩
  | bl b => exact ⟨_, _, _, _, _, _, rfl, ht, two, .base (.bl b), kit_lt (x := false) (y := false) (by decide +kernel) (by decide +kernel) rfl, q⟩
  | int i => exact ⟨_, _, _, _, _, _, rfl, ht, two, .base (.int i), kit_lt (x := false) (y := false) (by decide +kernel) (by decide +kernel) rfl, q⟩
  | str z => exact ⟨_, _, _, _, _, _, rfl, ht, two, .base (.str z), kit_lt (x := false) (y := false) (by decide +kernel) (by decide +kernel) rfl, q⟩
  | lst h => exact ⟨_, _, _, _, _, _, rfl, ht, two, h, kit_lt (x := true) (y := false) (by decide +kernel) (by decide +kernel) rfl, q⟩
  | tup h => exact ⟨_, _, _, _, _, _, rfl, ht, two, h, kit_lt (x := false) (y := true) (by decide +kernel) (by decide +kernel) rfl, q⟩
  | dct h => exact ⟨_, _, _, _, _, _, rfl, ht, two, h, kit_lt (x := false) (y := false) (by decide +kernel) (by decide +kernel) rfl, q⟩
theorem call_is_seq : CallR X (.builtin "isinstance") (fun xs H Q => ∃ x tp b, xs = [x, .ref tp] ∧ H tp = some (.tup [.ty "list", .ty "tuple"]) ∧ IsSeq X.K H x b ∧ Q (.bl b) H) := by
  intro pins s σ H xs us Q I r ⟨x, tp, b, e, ht, th, q⟩
  subst e
  exact call_isiT pins s σ H _ us Q I r (isi_seq ht th q)
theorem IsSeq.keep {K : PySem.W.Frag} {H H' : Hp} {x : V} {b : Bool} (k : Keep H H') (h : IsSeq K H x b) : IsSeq K H' x b := by
  cases h with
  | non => exact .non
  | bl b => exact .bl b
  | int i => exact .int i
  | str z => exact .str z
  | lst h => exact .lst (tyX_keep k h)
  | tup h => exact .tup (tyX_keep k h)
  | dct h => exact .dct (tyX_keep k h)
end
theorem op_in_seqK {X : Cx} {K : PySem.W.Frag} (h : X.K = K) : OpR X (compareOp .In) (rIn K false) := by
  rw [← h]
  exact op_in_seq
/-- the same in a comprehension's frame -/
theorem pg_tupK {X : Cx} {K : PySem.W.Frag} {es : List Expr} {k : Nat} {t : TGs} {n : Nat} {pos : Pos} (hK : X.K = K) (hc : X.calm = true) (h : PGs X es t)
    (hn : (assignEach es X.env).length = n := by rfl) (hst : (assignEach es X.env).findIdx? (·.1) = none := by rfl) : PG X (.Tuple es k pos) (gTup K n t) := by
  rw [← hK]
  exact pg_tup hc h hn hst
end LL
namespace LL
open PySem PySem.Spec PyProof.Rows L2
/-! ### a row's numbers, one by one -/
theorem filt_gap {S : Nat → Bool} {x y : Nat} (h : x ≤ y) (no : ∀ n, x ≤ n → n < y → S n = false) : (List.range y).filter S = (List.range x).filter S := by
  obtain ⟨d, rfl⟩ := Nat.exists_eq_add_of_le h
  clear h
  induction d with
  | zero => rfl
  | succ d ih =>
    rw [← Nat.add_assoc, List.range_succ, List.filter_append, ih (fun n a b => no n a (by omega))]
    rw [List.filter_cons_of_neg (by rw [no (x + d) (by omega) (by omega)]; exact Bool.false_ne_true), List.filter_nil, List.append_nil]
theorem filt_one {S : Nat → Bool} {n : Nat} (h : S n = true) : (List.range (n + 1)).filter S = (List.range n).filter S ++ [n] := by
  rw [List.range_succ, List.filter_append, List.filter_cons_of_pos h, List.filter_nil]
def numsOf (r : List Pr) : List Nat := (List.range 400).filter (has r)
theorem TidyFrom.split : ∀ {r1 : List Pr} {b : Nat} {z : Pr} {r2 : List Pr}, TidyFrom b (r1 ++ z :: r2) → (∀ y ∈ r1, y.2 < z.1) ∧ z.1 < z.2 ∧ z.2 ≤ 400 ∧ TidyFrom (z.2 + 1) r2
  | [], _, z, r2, ⟨_, h2, h3, h4⟩ => ⟨(fun y hy => nomatch hy), h2, h3, h4⟩
  | w :: r1, b, z, r2, ⟨h1, h2, h3, h4⟩ => by
    obtain ⟨a1, a2, a3, a4⟩ := TidyFrom.split (r1 := r1) h4
    refine ⟨fun y hy => ?_, a2, a3, a4⟩
    rcases List.mem_cons.mp hy with rfl | hy
    · have : has (r1 ++ z :: r2) z.1 = true := by rw [has_app, has_cons, decide_eq_true (Nat.le_refl _), decide_eq_true a2]; simp
      have := (h4.low this).1
      omega
    · exact a1 y hy
theorem has_over {r : List Pr} {n : Nat} (h : ∀ y ∈ r, y.2 ≤ n) : has r n = false := by
  cases q : has r n with
  | false => rfl
  | true =>
    obtain ⟨y, hy, q⟩ := List.any_eq_true.mp q
    have q := of_decide_eq_true (Bool.and_eq_true_iff.mp q).2
    have := h y hy
    omega
/-- where the i-th stretch begins, or the end -/
def upTo (r : List Pr) (i : Nat) : Nat := match r[i]? with | some z => z.1 | none => 400
theorem upTo_gap {r : List Pr} {i : Nat} {z : Pr} (h : Tidy r) (e : r[i]? = some z) : z.2 ≤ upTo r (i + 1) ∧ ∀ n, z.2 ≤ n → n < upTo r (i + 1) → has r n = false := by
  obtain ⟨hi, rfl⟩ := List.getElem?_eq_some_iff.mp e
  have sp : r = r.take i ++ r[i] :: r.drop (i + 1) := by
    rw [← List.drop_eq_getElem_cons hi, List.take_append_drop]
  have h' := h
  rw [sp] at h'
  obtain ⟨a1, a2, a3, a4⟩ := TidyFrom.split (b := 0) h'
  have get : r[i + 1]? = (r.drop (i + 1))[0]? := by rw [List.getElem?_drop]
  unfold upTo
  rw [get]
  cases q : r.drop (i + 1) with
  | nil =>
    refine ⟨a3, fun n l _ => ?_⟩
    rw [sp, has_app, has_cons, q, has_nil, has_over (fun y hy => Nat.le_of_lt (Nat.lt_of_lt_of_le (a1 y hy) (by omega))), decide_eq_false (show ¬ n < r[i].2 by omega), Bool.and_false]
    rfl
  | cons w t =>
    rw [q] at a4
    obtain ⟨b1, b2, b3, b4⟩ := a4
    refine ⟨Nat.le_of_succ_le b1, fun n l u => ?_⟩
    have u : n < w.1 := u
    have no : has (w :: t) n = false := TidyFrom.none (b := w.1) (r := w :: t) ⟨Nat.le_refl _, b2, b3, b4⟩ u
    rw [sp, has_app, has_cons, q, no, has_over (fun y hy => by have := a1 y hy; omega), decide_eq_false (show ¬ n < r[i].2 by omega), Bool.and_false]
    rfl
theorem upTo_first {r : List Pr} (h : Tidy r) : ∀ n, n < upTo r 0 → has r n = false := fun n l => by
  cases r with
  | nil => rfl
  | cons z r =>
    obtain ⟨h1, h2, h3, h4⟩ := h
    exact TidyFrom.none (b := z.1) (r := z :: r) ⟨Nat.le_refl _, h2, h3, h4⟩ l
theorem upTo_in {r : List Pr} {i : Nat} {z : Pr} (e : r[i]? = some z) : upTo r i = z.1 := by
  unfold upTo
  rw [e]
theorem upTo_end {r : List Pr} : upTo r r.length = 400 := by
  unfold upTo
  rw [List.getElem?_eq_none (Nat.le_refl _)]
theorem has_at {r : List Pr} {i : Nat} {z : Pr} {n : Nat} (e : r[i]? = some z) (l : z.1 ≤ n) (u : n < z.2) : has r n = true :=
  List.any_eq_true.mpr ⟨z, List.mem_of_getElem? e, by rw [decide_eq_true l, decide_eq_true u]; rfl⟩
/-! ### [e for x in xs for y in range(..)] -/
theorem lc2_rows {K : PySem.W.Frag} {a : Addr} {xs : List V} {g g1 : TG} {tt tt1 : TT} {wi1 : TI} {te : TE} {vs vs1 : List Nat} {σ : L2.St} {H1 : Hp} {D : Addr} {Qd : Hp → Prop} (J : Nat → Hp → Prop) (first : J 0 (upd H1 D (.lst []))) (still : ∀ i H, i ≤ xs.length → J i H → SqL K H a xs)
    (turn : ∀ i x H, xs[i]? = some x → J i H → g x (wipe σ vs) H fun σ2 H2 => wipe σ2 vs = wipe σ vs ∧ tt σ2 H2 fun b H3 =>
      if b = true then wi1 σ2 H3 fun J1 H4 => ∃ W1 : Nat → Nat → Hp → Prop, (∃ m, W1 0 m H4) ∧ ∀ j k H, W1 j k H →
        (J1.stop j H ∧ J (i + 1) H) ∨ (J1.go j H ∧ ∃ Nx1 : Hp → Prop, (∀ H', Nx1 H' → ∃ k', k' < k ∧ W1 (j + 1) k' H') ∧ ∀ x H', J1.yld j H x H' → g1 x (wipe σ2 vs1) H' fun σ3 H5 => wipe σ3 vs1 = wipe σ2 vs1 ∧ tt1 σ3 H5 fun b H6 =>
          if b = true then te σ3 H6 fun y H7 => ∃ acc, H7 D = some (.lst acc) ∧ acc.length < sizeLine ∧ Nx1 (upd H7 D (.lst (acc ++ [y]))) else Nx1 H6)
      else J (i + 1) H3) (last : ∀ H, J xs.length H → Qd H) :
    ∃ W : Nat → Nat → Hp → Prop, (∃ m, W 0 m (upd H1 D (.lst []))) ∧ ∀ i m H, W i m H →
      ((Itl K a).stop i H ∧ Qd H) ∨ ((Itl K a).go i H ∧ ∃ Nx : Hp → Prop, (∀ H', Nx H' → ∃ m', m' < m ∧ W (i + 1) m' H') ∧ ∀ x H', (Itl K a).yld i H x H' → g x (wipe σ vs) H' fun σ2 H2 => wipe σ2 vs = wipe σ vs ∧ tt σ2 H2 fun b H3 =>
        if b = true then wi1 σ2 H3 fun J1 H4 => ∃ W1 : Nat → Nat → Hp → Prop, (∃ m, W1 0 m H4) ∧ ∀ j k H, W1 j k H →
          (J1.stop j H ∧ Nx H) ∨ (J1.go j H ∧ ∃ Nx1 : Hp → Prop, (∀ H', Nx1 H' → ∃ k', k' < k ∧ W1 (j + 1) k' H') ∧ ∀ x H', J1.yld j H x H' → g1 x (wipe σ2 vs1) H' fun σ3 H5 => wipe σ3 vs1 = wipe σ2 vs1 ∧ tt1 σ3 H5 fun b H6 =>
            if b = true then te σ3 H6 fun y H7 => ∃ acc, H7 D = some (.lst acc) ∧ acc.length < sizeLine ∧ Nx1 (upd H7 D (.lst (acc ++ [y]))) else Nx1 H6)
        else Nx H3) := by
  refine ⟨fun i m H => m = xs.length - i ∧ i ≤ xs.length ∧ J i H, ⟨xs.length, by simp, Nat.zero_le _, first⟩, ?_⟩
  rintro i m H ⟨rfl, le, j⟩
  have sq := still i H le j
  rcases Nat.lt_or_ge i xs.length with lt | ge
  · refine .inr ⟨⟨xs, xs[i], sq, by simp [lt]⟩, J (i + 1), fun H' j' => ⟨xs.length - (i + 1), by omega, rfl, lt, j'⟩, fun x H' y => ?_⟩
    obtain ⟨rfl, y⟩ := y
    exact turn i x _ (y xs sq) j
  · obtain rfl : i = xs.length := by omega
    exact .inl ⟨⟨xs, sq, Nat.le_refl _⟩, last H j⟩
theorem lc2_nums {lo : Int} {n : Nat} {g1 : TG} {tt1 : TT} {te : TE} {vs1 : List Nat} {σ2 : L2.St} {H4 : Hp} {D : Addr} {Nx : Hp → Prop} (J : Nat → Hp → Prop) (first : J 0 H4)
    (turn : ∀ j H, j < n → J j H → g1 (.int (lo + (j : Nat))) (wipe σ2 vs1) H fun σ3 H5 => wipe σ3 vs1 = wipe σ2 vs1 ∧ tt1 σ3 H5 fun b H6 =>
      if b = true then te σ3 H6 fun y H7 => ∃ acc, H7 D = some (.lst acc) ∧ acc.length < sizeLine ∧ J (j + 1) (upd H7 D (.lst (acc ++ [y]))) else J (j + 1) H6) (last : ∀ H, J n H → Nx H) :
    ∃ W1 : Nat → Nat → Hp → Prop, (∃ m, W1 0 m H4) ∧ ∀ j k H, W1 j k H →
      ((Itr lo n).stop j H ∧ Nx H) ∨ ((Itr lo n).go j H ∧ ∃ Nx1 : Hp → Prop, (∀ H', Nx1 H' → ∃ k', k' < k ∧ W1 (j + 1) k' H') ∧ ∀ x H', (Itr lo n).yld j H x H' → g1 x (wipe σ2 vs1) H' fun σ3 H5 => wipe σ3 vs1 = wipe σ2 vs1 ∧ tt1 σ3 H5 fun b H6 =>
        if b = true then te σ3 H6 fun y H7 => ∃ acc, H7 D = some (.lst acc) ∧ acc.length < sizeLine ∧ Nx1 (upd H7 D (.lst (acc ++ [y]))) else Nx1 H6) := by
  refine ⟨fun i m H => m = n - i ∧ i ≤ n ∧ J i H, ⟨n, by simp, Nat.zero_le _, first⟩, ?_⟩
  rintro i m H ⟨rfl, le, j⟩
  rcases Nat.lt_or_ge i n with lt | ge
  · refine .inr ⟨lt, J (i + 1), fun H' j' => ⟨n - (i + 1), by omega, rfl, lt, j'⟩, fun x H' y => ?_⟩
    obtain ⟨rfl, rfl⟩ := y
    exact turn i _ lt j
  · obtain rfl : i = n := by omega
    exact .inl ⟨Nat.le_refl _, last H j⟩
/-! ### lists of whole numbers as data -/
def natDat (ns : List Nat) : PyData := .list (ns.map fun n : Nat => .int (n : Int))
theorem nat_dpA {K : PySem.W.Frag} {H : Hp} : ∀ ns : List Nat, DpAll K H (ns.map fun n : Nat => V.int (n : Int)) (ns.map fun n : Nat => PyData.int (n : Int))
  | [] => .nil
  | n :: ns => .cons (.int _) (nat_dpA ns)
theorem nat_dp {K : PySem.W.Frag} {H : Hp} {a : Addr} {ns : List Nat} (e : H a = some (.lst (ns.map fun n : Nat => V.int (n : Int)))) : Dp K H (.ref a) (natDat ns) := .lst (SqL.of e) (nat_dpA ns)
theorem natDat_eqv (ns ms : List Nat) : PyData.eqv (natDat ns) (natDat ms) = decide (ns = ms) := by
  have all : ∀ ns ms : List Nat, PyData.eqvAll (ns.map fun n : Nat => PyData.int (n : Int)) (ms.map fun n : Nat => PyData.int (n : Int)) = decide (ns = ms) := by
    intro ns
    induction ns with
    | nil =>
      intro ms
      cases ms <;> simp [PyData.eqvAll]
    | cons n ns ih =>
      intro ms
      cases ms with
      | nil => simp [PyData.eqvAll]
      | cons m ms =>
        simp only [List.map_cons, PyData.eqvAll, PyData.eqv]
        rw [ih, Bool.eq_iff_iff]
        simp
        exact fun _ => by omega
  simp only [natDat, PyData.eqv]
  exact all ns ms
theorem natDat_shaped (ns : List Nat) : SeqAt.shaped (natDat ns) = true := by
  have lay : ∀ ns : List Nat, PyData.canLayAll0 (ns.map fun n : Nat => PyData.int (n : Int)) = true := by
    intro ns
    induction ns with
    | nil => simp [PyData.canLayAll0]
    | cons n ns ih => simp [PyData.canLayAll0, PyData.canLay0, ih]
  have dep : ∀ ns : List Nat, PyData.depthAll (ns.map fun n : Nat => PyData.int (n : Int)) = 0 := by
    intro ns
    induction ns with
    | nil => simp [PyData.depthAll]
    | cons n ns ih => simp [PyData.depthAll, PyData.depth, ih]
  show (PyData.canLay0 (natDat ns) && decide (PyData.depth (natDat ns) ≤ 64)) = true
  rw [Bool.and_eq_true]
  refine ⟨by simp only [natDat, PyData.canLay0]; exact lay ns, decide_eq_true ?_⟩
  simp only [natDat, PyData.depth]
  rw [dep]
  decide
/-- a list or a tuple of whole numbers -/
def NumSq (H : Hp) (a : Addr) (ns : List Nat) : Prop := H a = some (.lst (ns.map fun n : Nat => V.int (n : Int))) ∨ H a = some (.tup (ns.map fun n : Nat => V.int (n : Int)))
theorem NumSq.keep {a : Addr} {H H' : Hp} {ns : List Nat} (k : Keep H H') (h : NumSq H a ns) : NumSq H' a ns := by
  rcases h with e | e
  · exact .inl (k _ _ (fun q z => by cases z) e)
  · exact .inr (k _ _ (fun q z => by cases z) e)
/-! ### a box and the table change, the rest is kept -/
structure Kb (a P : Addr) (H H' : Hp) : Prop where
  box : ∃ o, H' a = some o ∧ BoxO o
  tab : GxR.TabG H' P
  old : ∀ b o, b ≠ a → b ≠ P → H b = some o → H' b = some o
theorem box_tab {a P : Addr} {H : Hp} (b : ∃ o, H a = some o ∧ BoxO o) (t : GxR.TabG H P) : a ≠ P := by
  obtain ⟨o, e, x0, y0, z0, rfl, _⟩ := b
  exact tab_ne t e (fun q z => by cases z)
theorem Kb.refl {a P : Addr} {H : Hp} (b : ∃ o, H a = some o ∧ BoxO o) (t : GxR.TabG H P) : Kb a P H H := ⟨b, t, fun _ _ _ _ e => e⟩
theorem Kb.kept {a P : Addr} {H H1 H2 : Hp} (x : Kb a P H H1) (y : Kept a H1 H2) : Kb a P H H2 := ⟨y.box, y.tab x.box x.tab, fun b o n m e => y.old b o n (x.old b o n m e)⟩
theorem Kb.nw {a P : Addr} {H H1 H2 : Hp} (x : Kb a P H H1) (y : Nw P H1 H2) : Kb a P H H2 := by
  have n := box_tab x.box x.tab
  obtain ⟨o, e, b⟩ := x.box
  exact ⟨⟨o, y.old a o n e, b⟩, y.tab, fun c u m k q => y.old c u k (x.old c u m k q)⟩
theorem Kb.exd {a P : Addr} {H H1 H2 : Hp} (x : Kb a P H H1) (y : Exd H1 H2) : Kb a P H H2 := x.kept (y.kept x.box)
theorem Kb.trans {a P : Addr} {H H1 H2 : Hp} (x : Kb a P H H1) (y : Kb a P H1 H2) : Kb a P H H2 := ⟨y.box, y.tab, fun b o n m e => y.old b o n m (x.old b o n m e)⟩
theorem Kb.new {a P p : Addr} {H H1 : Hp} {u : HO} (x : Kb a P H H1) (hp : H1 p = none) : Kb a P H (L2.upd H1 p u) := x.exd ((Exd.refl _).new hp)
/-- what was new is changed -/
theorem Kb.put {a P p : Addr} {H H1 : Hp} {u o : HO} (x : Kb a P H H1) (hp : H p = none) (na : p ≠ a) (ho : H1 p = some o) (n : ∀ q, o ≠ .tbl q) : Kb a P H (L2.upd H1 p u) := by
  obtain ⟨o', e, b⟩ := x.box
  exact ⟨⟨o', by rw [upd_ne na.symm]; exact e, b⟩, tab_upd x.tab (fun z => tab_ne x.tab ho n z.symm), fun c v m k q => by rw [upd_ne (ne_of_none q hp)]; exact x.old c v m k q⟩
/-- a box that is new since H0 -/
theorem Kb.toNw {a P : Addr} {H0 H H' : Hp} (x : Kb a P H H') (n : Nw P H0 H) (h : H0 a = none) : Nw P H0 H' :=
  ⟨n.was, x.tab, fun c o m e => x.old c o (fun z => by rw [z, h] at e; cases e) m (n.old c o m e)⟩
theorem RowAt.neBox {a b : Addr} {H : Hp} {r : List Pr} (h : RowAt H b r) (bx : ∃ o, H a = some o ∧ BoxO o) : b ≠ a := fun z => by
  obtain ⟨o, e, x0, y0, z0, rfl, _⟩ := bx
  obtain ⟨qs, e1, p⟩ := h
  rw [z, e] at e1
  have := congrArg (fun u : Option HO => match u with | some (.lst (v :: _)) => some v | _ => none) e1
  cases qs with
  | nil => cases this
  | cons q qs => cases this
theorem PrsAt.kb {a P : Addr} {H H' : Hp} {qs : List Addr} {r : List Pr} (h : PrsAt H qs r) (bx : ∃ o, H a = some o ∧ BoxO o) (t : GxR.TabG H P) (x : Kb a P H H') : PrsAt H' qs r := by
  obtain ⟨o, e, x0, y0, z0, rfl, _⟩ := bx
  exact h.put fun q xs e2 => x.old q _ (fun z => by rw [z, e] at e2; cases e2) (tab_ne t e2 (fun q z => by cases z)) e2
theorem RowAt.kb {a b P : Addr} {H H' : Hp} {r : List Pr} (h : RowAt H b r) (bx : ∃ o, H a = some o ∧ BoxO o) (t : GxR.TabG H P) (x : Kb a P H H') : RowAt H' b r := by
  have nb := h.neBox bx
  obtain ⟨qs, e1, p⟩ := h
  exact ⟨qs, x.old b _ nb (tab_ne t e1 (fun q z => by cases z)) e1, p.kb bx t x⟩
theorem Kb.lst {a b P : Addr} {H H' : Hp} {xs : List V} (x : Kb a P H H') (t : GxR.TabG H P) (n : b ≠ a) (e : H b = some (.lst xs)) : H' b = some (.lst xs) := x.old b _ n (tab_ne t e (fun q z => by cases z)) e
theorem Kb.tup {a b P : Addr} {H H' : Hp} {xs : List V} (x : Kb a P H H') (t : GxR.TabG H P) (n : b ≠ a) (e : H b = some (.tup xs)) : H' b = some (.tup xs) := x.old b _ n (tab_ne t e (fun q z => by cases z)) e
theorem Kb.free {a b P : Addr} {H H' : Hp} (x : Kb a P H H') (e : H' b = none) : H b = none := by
  cases q : H b with
  | none => rfl
  | some o =>
    by_cases z : b = a
    · obtain ⟨o', e', _⟩ := x.box
      rw [z, e'] at e
      cases e
    · by_cases z2 : b = P
      · obtain ⟨ps, e2, _⟩ := x.tab
        rw [z2, e2] at e
        cases e
      · rw [x.old b o z z2 q] at e
        cases e
end LL
namespace LL
open PySem PySem.Spec PyProof.Rows L2
/-! ### len(set(xs)), xs a list or a tuple of unlike texts -/
def upTill (xs : List Str) (i : Nat) : Str → Bool := fun k => (xs.take i).any fun x => x == k
theorem upTill_step {xs : List Str} {i : Nat} {x : Str} (e : xs[i]? = some x) (k : Str) : (upTill xs i k || decide (k = x)) = upTill xs (i + 1) k := by
  unfold upTill
  rw [List.take_add_one, e, List.any_append]
  congr 1
  by_cases q : k = x
  · rw [q]; simp
  · have q' : (x == k) = false := beq_eq_false_iff_ne.mpr fun z => q z.symm
    simp [q, q']
theorem upTill_no {xs : List Str} {i : Nat} {x : Str} (nd : xs.Nodup) (e : xs[i]? = some x) : upTill xs i x = false := by
  obtain ⟨hi, rfl⟩ := List.getElem?_eq_some_iff.mp e
  cases q : upTill xs i xs[i] with
  | false => rfl
  | true =>
    obtain ⟨y, hy, ey⟩ := List.any_eq_true.mp q
    obtain ⟨j, hj⟩ := List.mem_iff_getElem?.mp (eq_of_beq ey ▸ hy)
    rw [List.getElem?_take] at hj
    by_cases l : j < i
    · rw [if_pos l] at hj
      obtain ⟨hj', ej⟩ := List.getElem?_eq_some_iff.mp hj
      exact absurd ej (List.pairwise_iff_getElem.mp nd j i hj' hi l)
    · rw [if_neg l] at hj
      cases hj
section
variable {prog : Program} {w : World} {A : Around}
abbrev SetAt (prog : Program) (w : World) (h : Heap) (S : Addr) (xs : List Str) (i : Nat) : Prop := h.SetOf (PySem.strKind prog w) S (upTill xs i) i
theorem SetAt.move {h h' : Heap} {S : Addr} {xs : List Str} {i : Nat} (x : SetAt prog w h S xs i) (k : ∀ o, h.get? S = some o → h'.get? S = some o) : SetAt prog w h' S xs i := by
  obtain ⟨o, es, ep, t, ho, r⟩ := x
  exact ⟨o, es, ep, t, k o ho, r⟩
/-- one text more -/
theorem set_more {xs : List Str} {S : Addr} {i : Nat} {x : Str} {t : Tok} {s : Shared} {E : Value → Shared → Prop} {Q : Bool → Shared → Prop} (nd : xs.Nodup) (few : xs.length + 1 < scanBound) (e : xs[i]? = some x) (st : SetAt prog w s.heap S xs i)
    (q : ∀ b h' tk, s.toks ≤ tk → Heap.SameBut S s.heap h' → SetAt prog w h' S xs (i + 1) → Q b { s with heap := h', toks := tk }) :
    wpAny (model prog w) A (setAdd S (.str x t)) Q E s := by
  have hi := (List.getElem?_eq_some_iff.mp e).1
  unfold setAdd
  refine wpAny_holding (wpAny_bind ((PySem.strKind prog w).pyHash (k := x) (strKind_is _ _ _ _) ?_))
  refine wpAny_setAddHashed_of (knd := PySem.strKind prog w) (s := { s with toks := s.toks + 1 }) (strKind_is _ _ _ _) rfl st (by omega) fun h' sb so => q _ h' _ (Nat.le_succ _) sb ?_
  exact SetOf_congr so (upTill_step e) (show (if upTill xs i x = true then i else i + 1) = i + 1 by rw [upTill_no nd e]; rfl)
/-- all of them, one by one -/
theorem set_all {R : Result → Shared → Prop} {I S : Addr} {fp wr : List Addr} {G : Array GenState → Array GenState → Prop} {n : Nat} {Pw : Nat → Value → Prop} {St : Nat → Shared → Prop} (W : WalksS prog w A.in1 I fp wr G n Pw St) (out : S ∉ fp) {xs : List Str} (nd : xs.Nodup) (ln : xs.length = n) (few : n + 1 < scanBound)
    (are : ∀ i v, Pw i v → ∃ x t, xs[i]? = some x ∧ v = .str x t) : ∀ (d i : Nat) (s : Shared), n - i = d → i ≤ n → St i s → SetAt prog w s.heap S xs i → (∀ s', Moved (S :: wr) G s s' → SetAt prog w s'.heap S xs n → R (.ok (.ret .none)) s') →
      codeAny (model prog w) A (.builtin "set.update.loop" ⟨[.ref S, .ref I], []⟩) R s := by
  have nw : S ∉ wr := fun z => out (W.sub _ z)
  intro d
  induction d with
  | zero =>
    intro i s e le st sa fin
    obtain rfl : i = n := by omega
    refine codeAny_builtin PyProof.Rows.F.entry_set_update_loop ?_
    rw [Around.under_plainId PyProof.Rows.F.plain_set_update_loop _]; show wpAny _ A.in1 (pyNext (.ref I) >>= _) _ _ s
    exact wpAny_bind (W.done s _ _ st fun s' m => (show wpAny _ A.in1 (ret Value.none) _ _ s' from wpAny_pure (fin s' (m.mono fun b hb => List.mem_cons_of_mem _ hb) (sa.move fun o ho => m.heap S o nw ho))))
  | succ d ih =>
    intro i s e le st sa fin
    have lt : i < n := by omega
    refine codeAny_builtin PyProof.Rows.F.entry_set_update_loop ?_
    rw [Around.under_plainId PyProof.Rows.F.plain_set_update_loop _]; show wpAny _ A.in1 (pyNext (.ref I) >>= _) _ _ s
    refine wpAny_bind (W.item i s _ _ lt st fun v s' pv st' m => ?_)
    obtain ⟨x, t, hx, rfl⟩ := are i v pv
    show wpAny _ A.in1 (holding [Value.str x t] (setAdd S (.str x t)) >>= _) _ _ s'
    refine wpAny_bind (wpAny_holding (set_more nd (by omega) hx (sa.move fun o ho => m.heap S o nw ho) fun b h' tk le2 sb sa' => ?_))
    have keep : ∀ b o, b ≠ S → s'.heap.get? b = some o → h'.get? b = some o := fun b o nb ho => by rw [sb.2 b nb]; exact ho
    refine wpAny_pure ⟨plainId_quiet PyProof.Rows.F.plain_set_update_loop _, ih (i + 1) _ (by omega) lt (W.frame _ s' _ _ st' le2 fun b hb o ho => keep b o (fun z => out (z ▸ hb)) ho) sa' fun s2 m2 sa2 => ?_⟩
    exact fin s2 (Moved.trans W.gtrans ((m.mono fun b hb => List.mem_cons_of_mem _ hb).then_heap le2 fun b o hb ho => keep b o (fun z => hb (z ▸ List.mem_cons_self)) ho) m2) sa2
/-- a list or a tuple -/
abbrev IsA (tp : Bool) (h : Heap) (l : Addr) (items : Array Value) : Prop := if tp = true then h.IsTuple l items else h.IsList l items
theorem strs_get {us : List Value} {xs : List Str} (h : StrsAre us xs) {i : Nat} {v : Value} (e : us[i]? = some v) : ∃ x t, xs[i]? = some x ∧ v = .str x t := by
  induction h generalizing i with
  | nil => cases e
  | cons x t _ ih =>
    cases i with
    | zero => exact ⟨x, t, rfl, (Option.some.inj e).symm⟩
    | succ i => exact ih e
theorem set_init (tp : Bool) {s : Shared} {E : Value → Shared → Prop} {l : Addr} {items : Array Value} {xs : List Str} (hd : A.handled = none) (src : IsA tp s.heap l items) (are : StrsAre items.toList xs) (nd : xs.Nodup) (few : xs.length + 1 < scanBound)
    {led : Bool} {ne : Obj} (hN : ({ cls := .type "set", dict := none, data := .set #[] 0 (.fresh 0 0 led) } : Obj) = ne) :
    wpAny (model prog w) A.in1.in1 (Builtin.«set.__init__» ⟨[.ref s.heap.objs.size, .ref l], []⟩)
      (fun z s' => match z with
        | .done f => wants (fun r s2 => r = .none ∧ ∃ h' tk, s2 = { s with heap := h', toks := tk } ∧ SetAt prog w h' s.heap.objs.size xs xs.length ∧ ∀ b o, s.heap.get? b = some o → h'.get? b = some o) E (.ok f) s'
        | .again c' => c'.quiet = true ∧ codeAny (model prog w) A.in1 c' (wants (fun r s2 => r = .none ∧ ∃ h' tk, s2 = { s with heap := h', toks := tk } ∧ SetAt prog w h' s.heap.objs.size xs xs.length ∧ ∀ b o, s.heap.get? b = some o → h'.get? b = some o) E) s')
      (fun e s' => wants (fun r s2 => r = .none ∧ ∃ h' tk, s2 = { s with heap := h', toks := tk } ∧ SetAt prog w h' s.heap.objs.size xs xs.length ∧ ∀ b o, s.heap.get? b = some o → h'.get? b = some o) E (.error e) s') { s with heap := s.heap.push ne } := by
  have ln : xs.length = items.size := by rw [← StrsAre.len_eq are, Array.length_toList]
  subst hN
  cases tp with
  | false =>
    obtain ⟨⟨oc, od, odt, os⟩, ho, hc, m, hm⟩ := id src
    simp only at hc hm
    subst hc hm
    have ho' := Heap.get?_push_of_some { cls := .type "set", dict := none, data := .set #[] 0 (.fresh 0 0 led) } ho
    have src' : (s.heap.push { cls := .type "set", dict := none, data := .set #[] 0 (.fresh 0 0 led) }).IsList l items := ⟨_, ho', rfl, m, rfl⟩
    have e1 := PySem.F.sub_list_set; have e2 := PySem.F.sub_list_frozenset; have e3 : (Value.type "list" == Value.type "dict") = false := by decide
    unfold Builtin.«set.__init__» noKeywords Builtin.Frozenset.updateFrom; generalize hPI : pyIter = PI
    wp_walk; subst hPI
    refine wpAny_pyIter_list src' (wpAny_bind (wpAny_runValue ?_))
    have lS : l < s.heap.objs.size := Heap.lt_size ho
    have sz : (s.heap.push { cls := .type "set", dict := none, data := .set #[] 0 (.fresh 0 0 led) }).objs.size = s.heap.objs.size + 1 := Heap.size_push ..
    have hd3 : A.in1.in1.in1.handled = none := by simp [hd]
    refine set_all ((Walks.list hd3 _ l (by rw [sz]; exact Nat.ne_of_lt (Nat.lt_succ_of_lt lS)) items).toS) (by rw [sz]; simp only [List.mem_cons, List.not_mem_nil, or_false, not_or]; exact ⟨Nat.ne_of_lt (Nat.lt_succ_self _), Nat.ne_of_gt lS⟩) nd ln (by omega) (fun i v hv => strs_get are (by rw [Array.getElem?_toList]; exact hv)) (items.size - 0) 0 _ rfl (Nat.zero_le _)
      ⟨⟨_, Heap.get?_push_size _ rfl, rfl, rfl⟩, src'.push _⟩ (SetOf_congr ((setObjOf_fresh (knd := PySem.strKind prog w) led).setOf (Heap.get?_push_of_some _ (Heap.get?_push_size _ rfl)) (by unfold scanBound; omega)) (fun _ => rfl) rfl) fun s' mv sa => ?_
    obtain ⟨h', g', d', tk', o'⟩ := s'
    obtain rfl : g' = s.gens := mv.gens
    obtain rfl : d' = s.drawn := mv.drawn
    obtain rfl : o' = s.os := mv.os
    refine wpAny_pure (show wpAny _ _ (ret Value.none) _ _ _ from wpAny_pure ⟨rfl, h', tk', rfl, by rw [ln]; exact sa, fun b o hb => ?_⟩)
    have lb := Heap.lt_size hb
    exact mv.heap b o (by rw [sz]; simp only [List.mem_cons, List.not_mem_nil, or_false, not_or]; exact ⟨Nat.ne_of_lt lb, Nat.ne_of_lt (Nat.lt_succ_of_lt lb)⟩) (Heap.get?_push_of_some _ (Heap.get?_push_of_some _ hb))
  | true =>
    obtain ⟨⟨oc, od, odt, os⟩, ho, hc, m, hm⟩ := id src
    simp only at hc hm
    subst hc hm
    have ho' := Heap.get?_push_of_some { cls := .type "set", dict := none, data := .set #[] 0 (.fresh 0 0 led) } ho
    have src' : (s.heap.push { cls := .type "set", dict := none, data := .set #[] 0 (.fresh 0 0 led) }).IsTuple l items := ⟨_, ho', rfl, m, rfl⟩
    have e1 := PySem.F.sub_tuple_set; have e2 := PySem.F.sub_tuple_frozenset; have e3 : (Value.type "tuple" == Value.type "dict") = false := by decide
    unfold Builtin.«set.__init__» noKeywords Builtin.Frozenset.updateFrom; generalize hPI : pyIter = PI
    wp_walk; subst hPI
    refine wpAny_pyIter_tuple src' (wpAny_bind (wpAny_runValue ?_))
    have lS : l < s.heap.objs.size := Heap.lt_size ho
    have sz : (s.heap.push { cls := .type "set", dict := none, data := .set #[] 0 (.fresh 0 0 led) }).objs.size = s.heap.objs.size + 1 := Heap.size_push ..
    have hd3 : A.in1.in1.in1.handled = none := by simp [hd]
    refine set_all ((Walks.tuple hd3 _ l (by rw [sz]; exact Nat.ne_of_lt (Nat.lt_succ_of_lt lS)) items).toS) (by rw [sz]; simp only [List.mem_cons, List.not_mem_nil, or_false, not_or]; exact ⟨Nat.ne_of_lt (Nat.lt_succ_self _), Nat.ne_of_gt lS⟩) nd ln (by omega) (fun i v hv => strs_get are (by rw [Array.getElem?_toList]; exact hv)) (items.size - 0) 0 _ rfl (Nat.zero_le _)
      ⟨⟨_, Heap.get?_push_size _ rfl, rfl, rfl⟩, src'.push _⟩ (SetOf_congr ((setObjOf_fresh (knd := PySem.strKind prog w) led).setOf (Heap.get?_push_of_some _ (Heap.get?_push_size _ rfl)) (by unfold scanBound; omega)) (fun _ => rfl) rfl) fun s' mv sa => ?_
    obtain ⟨h', g', d', tk', o'⟩ := s'
    obtain rfl : g' = s.gens := mv.gens
    obtain rfl : d' = s.drawn := mv.drawn
    obtain rfl : o' = s.os := mv.os
    refine wpAny_pure (show wpAny _ _ (ret Value.none) _ _ _ from wpAny_pure ⟨rfl, h', tk', rfl, by rw [ln]; exact sa, fun b o hb => ?_⟩)
    have lb := Heap.lt_size hb
    exact mv.heap b o (by rw [sz]; simp only [List.mem_cons, List.not_mem_nil, or_false, not_or]; exact ⟨Nat.ne_of_lt lb, Nat.ne_of_lt (Nat.lt_succ_of_lt lb)⟩) (Heap.get?_push_of_some _ (Heap.get?_push_of_some _ hb))
theorem call_set_texts (tp : Bool) {s : Shared} {E : Value → Shared → Prop} {l : Addr} {items : Array Value} {xs : List Str} {Q : Value → Shared → Prop} (hd : A.handled = none) (src : IsA tp s.heap l items) (are : StrsAre items.toList xs) (nd : xs.Nodup) (few : xs.length + 1 < scanBound)
    (q : ∀ (h' : Heap) (tk : Nat), SetAt prog w h' s.heap.objs.size xs xs.length → (∀ b o, s.heap.get? b = some o → h'.get? b = some o) → Q (.ref s.heap.objs.size) { s with heap := h', toks := tk }) :
    wpAny (model prog w) A (call (.type "set") [.ref l]) Q E s := by
  obtain ⟨c, tl, hmro⟩ := PySem.F.called_set.mro
  have k1 := PySem.F.called_set.made; have k2 := PySem.F.called_set.sub; have k3 := PySem.F.called_set.notType; have k4 := PySem.F.called_set.canCreate
  have k5 := PySem.F.typeCall_set_1 (.ref l)
  refine wpAny_call (codeAny_of_tree (show wpAny _ _ (callAny (.type "set") _) _ _ _ from ?_))
  refine wpAny_pure ⟨Code.quiet_builtin _ (by decide +kernel), codeAny_builtin PySem.F.entry_type_call ?_⟩
  rw [Around.under_plain (weight_type_call_type "set" [.ref l] []) rfl]; repeat (any_goals (first | assumption | wp_step))
  refine codeAny_mono (code_set_new_1 (.ref l) (E := E) (Q₁ := fun ob s1 => ∃ led : Bool, ob = .ref s.heap.objs.size ∧ s1 = { s with heap := s.heap.push { cls := .type "set", dict := none, data := .set #[] 0 (.fresh 0 0 led) } }) fun led => ⟨led, rfl, rfl⟩) fun r s1 hr => ?_
  rcases r with e | fl
  · exact hr
  cases fl with
  | ret ob =>
    obtain ⟨led, rfl, rfl⟩ := hr
    generalize hN : ({ cls := .type "set", dict := none, data := .set #[] 0 (.fresh 0 0 led) } : Obj) = ne
    have eN : (s.heap.push ne).get? s.heap.objs.size = some ne := Heap.get?_push_size _ (by subst hN; rfl)
    have tN : Shared.TypeIs { s with heap := s.heap.push ne } (.ref s.heap.objs.size) "set" := ⟨_, eN, by subst hN; rfl⟩
    have k6 := PySem.F.called_set.init.lookup; have k7 := PySem.F.called_set.init.bind (.ref s.heap.objs.size)
    repeat (any_goals (first | assumption | wp_step))
    refine codeAny_mono (codeAny_call_builtin (R := wants (fun r s2 => r = .none ∧ ∃ h' tk, s2 = { s with heap := h', toks := tk } ∧ SetAt prog w h' s.heap.objs.size xs xs.length ∧ ∀ b o, s.heap.get? b = some o → h'.get? b = some o) E) PySem.F.called_set.init.plain PySem.F.entry_set_init (check_set_init_1 tN ?_)) fun r2 s2 hr2 => ?_
    · exact set_init tp hd src are nd few hN
    · rcases r2 with e | f2
      · exact hr2
      cases f2 with
      | ret r =>
        obtain ⟨rfl, h', tk, rfl, sa, keep⟩ := hr2
        repeat (any_goals (first | assumption | wp_step))
        exact q h' tk sa keep
      | _ => exact hr2.elim
  | _ => exact hr.elim
end
section
variable {X : Cx}
/-- len(set(xs)) of unlike texts -/
def tLenTxt (K : PySem.W.Frag) (ta : TE) : TE := fun σ H Q => ta σ H fun x H1 => ∃ (l : Addr) (xs : List Str), x = .ref l ∧ (SqL K H1 l (xs.map V.str) ∨ SqT K H1 l (xs.map V.str)) ∧ xs.Nodup ∧ xs.length ≤ 1000 ∧ Q (.int xs.length) H1
theorem strs_vals : ∀ {ys : List Str} {us : List Value}, Vals (ys.map V.str) us → StrsAre us ys
  | [], _, .nil => .nil
  | y :: ys, _, .cons ⟨k, e⟩ t => e ▸ .cons y k (strs_vals t)
theorem pe_lenTxt {a : Expr} {ta : TE} {p p2 q pos : Pos} (hc : X.calm = true) (g1 : Gl X "len") (m1 : X.mg "len" = none) (g2 : Gl X "set") (m2 : X.mg "set" = none) (ha : PE X a ta)
    (n1 : starEach [a] X.env = (false, eval a X.env) :: starEach [] X.env := by rfl) : PE X (.Call (.Name "len" p) [.Call (.Name "set" p2) [a] [] q] [] pos) (tLenTxt X.K ta) := by
  refine ⟨fun pins s σ H Q I h => Call_ (ld_blt I g1 m1 boot_len (callWith_builtin1 (args_cons (Call_ (ld_blt I g2 m2 boot_set (callWith_type1 (args_cons (thn (ha.run pins s σ H _ I h) fun v s1 ⟨x, H1, J, r1, want⟩ => args_nil ?_) n1) n1 rfl))) rfl) rfl rfl))⟩
  obtain ⟨l, xs, rfl, sq, nd, few, want⟩ := want
  obtain rfl : v = Value.ref l := r1
  have few2 : xs.length + 1 < scanBound := by unfold scanBound; omega
  have fin : ∀ (h' : Heap) (tk : Nat), SetAt X.prog X.w h' s1.heap.objs.size xs xs.length → (∀ b o, s1.heap.get? b = some o → h'.get? b = some o) →
      wpAny (model X.prog X.w) X.A (spliced (backTo pos (starEach [] X.env))) (fun vs s2 => wpAny (model X.prog X.w) X.A (call (.builtin "len") (Value.ref s1.heap.objs.size :: vs)) (EP X pins σ Q) X.xe s2) X.xe { s1 with heap := h', toks := tk } := fun h' tk sa keep => args_nil (by
    obtain ⟨o, es, ep, t, ho, hex, hdt, _, _, _, hf, hn⟩ := sa
    exact call_len_set ho hex hdt hf (by rw [hn]; omega) ⟨.int xs.length, H1, (J.kept (t' := tk) keep).tok _, ⟨_, by rw [hn]⟩, want⟩)
  rcases sq with sq | sq
  · obtain ⟨its, rs, pl, _⟩ := J.list sq
    exact call_set_texts false (J.ok.hd hc) pl.isList (by simpa using strs_vals rs) nd few2 fin
  · obtain ⟨its, rs, pl, _⟩ := J.tuple sq
    exact call_set_texts true (J.ok.hd hc) (show s1.heap.IsTuple l its.toArray from pl) (by simpa using strs_vals rs) nd few2 fin
end
end LL
namespace LL
open PySem PySem.Spec PyProof.Rows L2
/-! ### enumerate(t), t a tuple -/
theorem meets_enum_tup (l : Addr) (items : Array Value) :
    Meets (Builtin.«enumerate.__new__» ⟨[.type "enumerate", .ref l], []⟩) (fun _ R s => s.heap.IsTuple l items ∧
      R (.ok (.ret (.ref (s.heap.push { cls := .type "tuple_iterator", data := .fields #[.ref l, .int 0 0] }).objs.size)))
        { s with heap := (s.heap.push { cls := .type "tuple_iterator", data := .fields #[.ref l, .int 0 0] }).push { cls := .type "enumerate", data := .fields #[.none, .bool false, .ref s.heap.objs.size, rawInt 0, .none, .none] } }) :=
  .of_wp fun prog w A R s h => by
    obtain ⟨hp, g, d, tk, os⟩ := s; obtain ⟨it, h⟩ := h
    have sub := sub_enumerate
    have go : ∀ {A' : Around} {E : Value → Shared → Prop} {Q : Value → Shared → Prop}, Q (.ref hp.objs.size) ⟨hp.push { cls := .type "tuple_iterator", data := .fields #[.ref l, .int 0 0] }, g, d, tk, os⟩ → wpAny (model prog w) A' (pyIter (.ref l)) Q E ⟨hp, g, d, tk, os⟩ :=
      fun q => wpAny_pyIter_tuple it q
    wp_walk using go; refine wpAny_stack_any fun st => wpAny_pure ?_
    split
    · rename_i c _ _ _ _ _
      cases (c == Value.type "enumerate") <;> (wp_walk using go; exact ⟨_, rfl, h⟩)
    · wp_walk using go; exact ⟨_, rfl, h⟩
theorem call_enum_tup {prog : Program} {w : World} {A : Around} {E : Value → Shared → Prop} {s : Shared} {l : Addr} {items : Array Value} {Q : Value → Shared → Prop} (it : s.heap.IsTuple l items)
    (q : ∀ h', IsEnum h' (s.heap.objs.size + 1) s.heap.objs.size 0 .none → h'.IsTupleIter s.heap.objs.size l 0 → (∀ b o, s.heap.get? b = some o → h'.get? b = some o) → Q (.ref (s.heap.objs.size + 1)) { s with heap := h' }) :
    wpAny (model prog w) A (call (.type "enumerate") [.ref l]) Q E s := by
  refine callType_new F.called_enumerate (by decide) (F.typeCall_enumerate_1 _) (F.newCall_enumerate_1 _) (fun ob => F.args_object_init_2 ob _) F.entry_enumerate_new (meets_enum_tup l items) ⟨it, ?_⟩
  have sz : (s.heap.push { cls := .type "tuple_iterator", data := .fields #[.ref l, .int 0 0] }).objs.size = s.heap.objs.size + 1 := Heap.size_push ..
  have e1 := Heap.get?_push_size (s.heap.push { cls := .type "tuple_iterator", data := .fields #[.ref l, .int 0 0] }) (o := { cls := .type "enumerate", data := .fields #[.none, .bool false, .ref s.heap.objs.size, rawInt 0, .none, .none] }) rfl
  rw [sz] at e1 ⊢
  exact ⟨⟨_, e1, rfl⟩, q _ e1 ⟨_, Heap.get?_push_of_some _ (Heap.get?_push_size _ rfl), rfl, rfl⟩ fun b o x => Heap.get?_push_of_some _ (Heap.get?_push_of_some _ x)⟩
/-- the tuple at a, each item in a new pair -/
def IteT (K : PySem.W.Frag) (a : Addr) : It :=
  ⟨fun i H => ∃ (xs : List V) (x : V), SqT K H a xs ∧ xs[i]? = some x, fun i H v H' => ∃ T x, v = .ref T ∧ H T = none ∧ H' = upd H T (.tup [.int (i : Nat), x]) ∧ ∀ xs, SqT K H a xs → xs[i]? = some x, fun i H => ∃ xs : List V, SqT K H a xs ∧ xs.length = i⟩
theorem turn_enumT {P : Program} {w : World} {K : PySem.W.Frag} {elts : List Expr} {kk : Nat} {tpos : Pos} (a e it : Addr) (na : a ≠ it) (nea : e ≠ a) :
    Turn P w K (.Tuple elts kk tpos) (IteT K a) [e, it] e (fun i h => (∃ old, IsEnum h e it ((i : Nat) : Int) old) ∧ h.IsTupleIter it a i ∧ e ≠ it) where
  mem := List.mem_cons_self
  obj := fun i h st b hb => by
    obtain ⟨⟨old, he⟩, ⟨o, ho, hc, hd⟩, _⟩ := st
    rcases List.mem_cons.mp hb with rfl | hb
    · exact ⟨_, he, fun v z => nomatch z⟩
    · obtain rfl := List.mem_singleton.mp hb
      exact ⟨o, ho, fun v z => by rw [hd] at z; cases z⟩
  keep := fun i h h' ⟨⟨old, he⟩, hi, ne⟩ k => ⟨⟨old, k e List.mem_cons_self _ he⟩, hi.at fun o q => k it (List.mem_cons_of_mem _ List.mem_cons_self) o q, ne⟩
  item := by
    intro X hP hw hK hc i pins s σ H E I hf st hg
    subst hP hw hK
    obtain ⟨⟨old, he⟩, hit, ne⟩ := st
    obtain ⟨xs, x, sq, hx⟩ := hg
    obtain ⟨its, rv, pl, _⟩ := I.tuple sq
    obtain ⟨u, hu, ru⟩ := rv.get hx
    have lt : i < its.toArray.size := by rw [List.size_toArray]; exact (List.getElem?_eq_some_iff.mp hu).1
    have le : e < s.heap.objs.size := Heap.lt_size he
    have li : it < s.heap.objs.size := by obtain ⟨_, q, _⟩ := hit; exact Heap.lt_size q
    have hd : X.A.in1.handled = none := by
      have := I.ok.hd hc
      simpa using this
    refine wpAny_pyNext_enum_itemD (Draws.tuple hd it a na its.toArray) he ⟨hit, pl⟩ lt ne (by
      simp only [List.mem_cons, List.not_mem_nil, or_false, not_or]
      exact ⟨ne, nea⟩) fun x' h' tk hP' ho st' hT hsz hk => ?_
    obtain rfl : x' = u := by
      have hP' : its.toArray[i]? = some x' := hP'
      rw [← Array.getElem?_toList] at hP'
      exact Option.some.inj (hP'.symm.trans hu)
    refine ⟨_, rfl, wpAny_letOwnedTupleGo_enum (s := { s with heap := h', toks := tk + 1 }) ho fun h2 he2 sb => ?_⟩
    have hT2 : h2.get? s.heap.objs.size = some { cls := .type "tuple", data := .seq #[.int i tk, x'] } := (sb.2 _ (Nat.ne_of_gt le)).trans hT
    have new : ObjOk X.prog X.w (upd H s.heap.objs.size (.tup [.int (i : Nat), x])) h2 s.heap.objs.size (.tup [.int (i : Nat), x]) :=
      ⟨by show 2 ≤ sizeLine; decide, [.int i tk, x'], .cons ⟨_, rfl⟩ (.cons ru .nil), ⟨_, hT2, rfl, _, rfl⟩⟩
    have I1 : Inv X pins σ (upd H s.heap.objs.size (.tup [.int (i : Nat), x])) { s with heap := h2, toks := tk + 1 } :=
      I.turnedNew (ch := [e, it]) (fun b o hb q => (sb.2 b fun z => hb (z ▸ List.mem_cons_self)).trans (hk b o (fun z => hb (z ▸ List.mem_cons_self)) (fun z => hb (z ▸ List.mem_cons_of_mem _ List.mem_cons_self)) q)) hf (Nat.le_refl _) new
    refine ⟨.ref s.heap.objs.size, _, I1, rfl, ⟨_, x, rfl, I.hok.fresh (Nat.le_refl _), rfl, fun ys hy => by rw [I.tuple_inj hy sq]; exact hx⟩, ⟨⟨x', ?_⟩, st'.1.at fun o q => (sb.2 it (Ne.symm ne)).trans q, ne⟩, fun b hb => ?_⟩
    · rw [show ((i + 1 : Nat) : Int) = (i : Int) + 1 by omega]
      exact he2
    · have lb : b < s.heap.objs.size := by
        rcases List.mem_cons.mp hb with rfl | hb
        · exact le
        · obtain rfl := List.mem_singleton.mp hb
          exact li
      rw [upd_ne (Nat.ne_of_lt lb)]
      exact (hf b hb).1
  done := by
    intro X hP hw hK hc i pins s σ H E I hf st hg
    subst hP hw hK
    obtain ⟨⟨old, he⟩, hit, ne⟩ := st
    obtain ⟨xs, sq, hx⟩ := hg
    obtain ⟨its, rv, pl, _⟩ := I.tuple sq
    obtain ⟨f0, f1, f2, f3, f4, f5⟩ := hf it (List.mem_cons_of_mem _ List.mem_cons_self)
    have hd : X.A.in1.handled = none := by
      have := I.ok.hd hc
      simpa using this
    have ln : its.toArray.size = i := by rw [List.size_toArray, ← rv.length]; exact hx
    exact wpAny_pyNext_enum_endD (Draws.tuple hd it a na its.toArray) he (by rw [ln]; exact ⟨hit, pl⟩) fun h' eb => ⟨rfl, I.turned (t' := s.toks) (fun b o hb q => eb b o hb q) f0 f1 f3 f4 f5⟩
  self := fun A i s Q E ⟨⟨_, he⟩, _⟩ h => wpAny_pyIter_enum he h
def iEnumT (K : PySem.W.Frag) (ta : TA) : TI := fun σ H R => ta σ H fun vs H1 => ∃ a xs, vs = [.ref a] ∧ SqT K H1 a xs ∧ R (IteT K a) H1
theorem pi_enumT {X : Cx} {e : Expr} {ta : TA} {p pos tpos : Pos} {elts : List Expr} {kk : Nat} (hg : Gl X "enumerate") (hm : X.mg "enumerate" = none) (ha : PA X [e] ta) (hs : starEach [e] X.env = [(false, eval e X.env)] := by rfl) :
    PI X (.Tuple elts kk tpos) (.Call (.Name "enumerate" p) [e] [] pos) (iEnumT X.K ta) := by
  refine ⟨fun pins s σ H R I h => Call_ (ld_blt I hg hm boot_enumerate (callWith_type1 (thn (ha.run pos pins s σ H _ I h) fun us s1 ⟨vs, H1, J, rv, a, xs, ex, sq, want⟩ => ?_) hs rfl))⟩
  subst ex
  cases rv with
  | cons r rr =>
    cases rr
    cases r
    obtain ⟨its, rs, pl, _⟩ := J.tuple sq
    have pl' : s1.heap.IsTuple a its.toArray := pl
    have la : a < s1.heap.objs.size := by
      obtain ⟨o, ho, _⟩ := pl'
      exact Heap.lt_size ho
    refine call_enum_tup pl' fun h' he hit keep => wpAny_pyIter_enum he ?_
    refine ⟨s1.heap.objs.size + 1, [s1.heap.objs.size + 1, s1.heap.objs.size], _, _, H1, rfl, J.kept (t' := s1.toks) keep, turn_enumT a (s1.heap.objs.size + 1) s1.heap.objs.size (Nat.ne_of_lt la) (Nat.ne_of_gt (Nat.lt_succ_of_lt la)), ⟨⟨.none, he⟩, hit, Nat.succ_ne_self _⟩, fun b hb => ?_, want⟩
    have le : s1.heap.objs.size ≤ b := by
      rcases List.mem_cons.mp hb with rfl | hb
      · exact Nat.le_succ _
      · obtain rfl := List.mem_singleton.mp hb
        exact Nat.le_refl _
    exact J.fpOk le (J.hok.fresh le)
/-! ### one rule or the other -/
theorem pe_or {X : Cx} {e : Expr} {t u : TE} (h : PE X e t) (g : PE X e u) : PE X e (fun σ H Q => t σ H Q ∨ u σ H Q) :=
  ⟨fun pins s σ H Q I q => q.elim (fun q => h.run pins s σ H Q I q) fun q => g.run pins s σ H Q I q⟩
theorem pi_or {X : Cx} {tg e : Expr} {t u : TI} (h : PI X tg e t) (g : PI X tg e u) : PI X tg e (fun σ H R => t σ H R ∨ u σ H R) :=
  ⟨fun pins s σ H R I q => q.elim (fun q => h.run pins s σ H R I q) fun q => g.run pins s σ H R I q⟩
end LL
namespace LL
open PySem PySem.Spec PyProof.Rows L2
/-! ### tuple(d): its keys -/
section
variable {prog : Program} {w : World} {A : Around} {E : Value → Shared → Prop} {s : Shared} {r d : Addr} {n : Nat} {Pk : Nat → Value → Prop} {OK : Heap → Prop}
theorem gather_keys {Q : List Value → Shared → Prop} (K : PySem.W.KdlSrc prog w "dict" r d n Pk OK) (hd : A.handled = none) (ok : OK s.heap) (few : n ≤ sizeLine)
    (q : ∀ (h' : Heap) (tk : Nat) (acc : Array Value), (∀ b o, s.heap.get? b = some o → h'.get? b = some o) → ItemsOf Pk acc n → Q acc.toList { s with heap := h', toks := tk }) :
    wpAny (model prog w) A (collect (.ref r)) Q E s := by
  obtain ⟨lr, ld⟩ := K.there _ ok
  have eS : (s.heap.push { cls := .type "list", data := .seq ([] : List Value).toArray }).get? s.heap.objs.size = some { cls := .type "list", data := .seq #[] 0 } := Heap.get?_push_size _ rfl
  unfold collect
  refine wpAny_bind (wpAny_runValue (codeAny_builtin F.entry_proto_collect ?_))
  rw [Around.under_plainId F.plain_proto_collect _]; show wpAny _ A.in1 (newList [] >>= fun l => again (.builtin "list.__iadd__" ⟨[l, .ref r], []⟩)) _ _ s
  refine wpAny_bind (wpAny_newObj_type (wpAny_pure ⟨plainId_quiet F.plain_list_iadd _, codeAny_builtin F.entry_list_iadd ?_⟩))
  rw [Around.under_plainId F.plain_list_iadd _]; show wpAny _ A.in1 (Builtin.List.listExtendWith (.ref s.heap.objs.size) (.ref r) (.ref s.heap.objs.size)) _ _ _
  refine wpAny_mono (PySem.W.kdl_extend (A := A) (R := fun rr s' => rr = .ok (.ret (.ref s.heap.objs.size)) ∧ ∃ (h' : Heap) (tk : Nat) (acc : Array Value) (c' : Nat), s' = { s with heap := h', toks := tk } ∧ (∀ b o, s.heap.get? b = some o → h'.get? b = some o) ∧ h'.get? s.heap.objs.size = some { cls := .type "list", dict := none, data := .seq acc c', slots := #[] } ∧ ItemsOf Pk acc n)
    (s := { s with heap := s.heap.push { cls := .type "list", data := .seq ([] : List Value).toArray } }) K hd (K.keep _ _ ok fun b _ o e => Heap.get?_push_of_some _ e) _ (Nat.ne_of_gt lr) (Nat.ne_of_gt ld) _ 0 eS
    (fun h' tk acc c' keep e its => ⟨rfl, h', tk, acc, c', rfl, fun b o z => keep b o (Nat.ne_of_lt (Heap.lt_size z)) (Heap.get?_push_of_some _ z), e, its⟩) few) (fun z s' h => ?_) (fun e s' h => absurd h.1 (by simp))
  cases z with
  | done f =>
    obtain ⟨e, rest⟩ := h
    cases e
    obtain ⟨h', tk, acc, c', e, keep, eS', its⟩ := rest
    subst e
    show wpAny _ A (load s.heap.objs.size >>= _) _ _ _
    exact wpAny_bind (wpAny_load eS' (wpAny_pure (q h' tk acc keep its)))
  | again c' =>
    refine ⟨h.1, codeAny_mono h.2 fun rr s2 hr => ?_⟩
    obtain ⟨rfl, h', tk, acc, c', e, keep, eS', its⟩ := hr
    subst e
    show wpAny _ A (load s.heap.objs.size >>= _) _ _ _
    exact wpAny_bind (wpAny_load eS' (wpAny_pure (q h' tk acc keep its)))
theorem call_tuple_keys {Q : Value → Shared → Prop} (K : PySem.W.KdlSrc prog w "dict" r d n Pk OK) (hd : A.handled = none) (ok : OK s.heap) (few : n ≤ sizeLine)
    (q : ∀ (h' : Heap) (tk : Nat) (acc : Array Value), (∀ b o, s.heap.get? b = some o → h'.get? b = some o) → ItemsOf Pk acc n → Q (.ref h'.objs.size) { s with heap := h'.push { cls := .type "tuple", data := .seq acc }, toks := tk }) :
    wpAny (model prog w) A (call (.type "tuple") [.ref r]) Q E s := by
  have made : codeAny (model prog w) A.in1 (.call (.builtin "tuple.__new__") ⟨[.type "tuple", .ref r], []⟩) (wants (fun ob s1 => s1.TypeIs ob "tuple" ∧ Q ob s1) E) s := by
    refine codeAny_of_tree ?_
    show wpAny _ A.in1.in1 (do checkBuiltinCall "tuple.__new__" ⟨[.type "tuple", .ref r], []⟩; again (.builtin "tuple.__new__" ⟨[.type "tuple", .ref r], []⟩)) _ _ s
    refine wpAny_bind (wpAny_of_eq (F.newCall_tuple_1 _) (wpAny_pure ⟨plainId_quiet F.plain_tuple_new _, codeAny_builtin F.entry_tuple_new ?_⟩))
    rw [Around.under_plainId F.plain_tuple_new _]
    have e1 := sub_tuple_self; have e2 := init_tuple_lookup; have e3 := madeHere_tuple
    have tI := K.type s ok
    have hd2 : A.in1.in1.handled = none := by simp [hd]
    wp_walk using wpAny_typeOf tI, gather_keys (A := A.in1.in1) K hd2 ok few
    intro h' tk acc keep its
    have ea : acc.toList.toArray = acc := by simp
    show wpAny _ _ (Builtin.Tuple.tupleExact acc.toList.toArray >>= fun v => ret v) _ _ _
    unfold Builtin.Tuple.tupleExact
    rw [ea]
    exact wpAny_bind (wpAny_newObj_type (wpAny_pure ⟨⟨_, Heap.get?_push_size _ rfl, rfl⟩, q h' tk acc keep its⟩) (by show acc.size ≤ sizeLine; rw [its.1]; exact few))
  exact callType_codes (Q₁ := fun ob s1 => s1.TypeIs ob "tuple" ∧ Q ob s1) F.called_tuple (F.typeCall_tuple_1 _) F.entry_object_init made fun ob s1 h1 => ⟨h1.1, F.args_object_init_2 ob _, object_init_meets F.called_tuple.init.lookup F.called_tuple.made (by decide) prog w A.in1 _ s1 ⟨h1.1, rfl, h1.2⟩⟩
end
theorem call_tupleD {X : Cx} (hc : X.calm = true) : CallR X (.type "tuple") (fun xs H Q => ∃ (a : Addr) (kvs : List (Key × V)), xs = [.ref a] ∧ Rd H a (.dK kvs) ∧ ∀ p, H p = none → Q (.ref p) (upd H p (.tup (kvs.map fun kv => kV kv.1)))) := by
  intro pins s σ H xs us Q I r ⟨a, kvs, ex, hd, q⟩
  subst ex
  obtain ⟨u, eu, rx⟩ := vals1 r
  subst eu
  cases rx
  obtain ⟨z, lo, vs, rel, dd⟩ := dk_rd I.hok hd
  obtain ⟨ep, hat⟩ := dd.dictAt
  have ek : (kvs.map fun kv => kV kv.1) = vs.map fun p => kV p.1 := by
    have := congrArg (List.map kV) rel.keys
    rwa [List.map_map, List.map_map] at this
  refine call_tuple_keys (PySem.W.kdl_dict (knd := mixKind X.prog X.w) (kvs := vs) (ep := ep) lo) (I.ok.hd hc) hat (by rw [← rel.length]; exact z) fun h' tk acc keep its => ?_
  have hv : Vals (vs.map fun p => kV p.1) acc.toList := keys_at (by rw [Array.length_toList]; exact its.1) fun j v e => its.2 j v (by rw [← Array.getElem?_toList]; exact e)
  have I1 : Inv X pins σ H { s with heap := h', toks := tk } := I.kept keep
  exact ⟨.ref h'.objs.size, upd H h'.objs.size (.tup (kvs.map fun kv => kV kv.1)), I1.laid (t' := tk) (fun b o e => Heap.get?_push_of_some _ e) (Nat.le_refl _)
    (show ObjOk X.prog X.w _ _ _ (.tup (kvs.map fun kv => kV kv.1)) from ⟨by rw [List.length_map]; exact z, acc.toList, by rw [ek]; exact hv, by rw [Array.toArray_toList]; exact IsTup.new _ _⟩), rfl, q _ (I1.hok.fresh (Nat.le_refl _))⟩
end LL
namespace LL
open PySem PySem.Spec PyProof.Rows L2
/-! ### several tables of code -/
structure Nws (Ps : List Addr) (H H' : Hp) : Prop where
  was : ∀ P ∈ Ps, GxR.TabG H P
  tab : ∀ P ∈ Ps, GxR.TabG H' P
  old : ∀ b o, b ∉ Ps → H b = some o → H' b = some o
theorem Nws.refl {Ps : List Addr} {H : Hp} (h : ∀ P ∈ Ps, GxR.TabG H P) : Nws Ps H H := ⟨h, h, fun _ _ _ e => e⟩
theorem Nws.trans {Ps : List Addr} {H H1 H2 : Hp} (x : Nws Ps H H1) (y : Nws Ps H1 H2) : Nws Ps H H2 := ⟨x.was, y.tab, fun b o n e => y.old b o n (x.old b o n e)⟩
theorem Nws.of {Ps : List Addr} {P : Addr} {H H' : Hp} (h : ∀ P ∈ Ps, GxR.TabG H P) (m : P ∈ Ps) (t : GxR.Tabbed P H H') : Nws Ps H H' := by
  refine ⟨h, fun R hR => ?_, fun b o n e => by rw [t.2 b (fun z => n (z ▸ m))]; exact e⟩
  by_cases z : R = P
  · rw [z]
    exact t.1
  · obtain ⟨ps, e, tr⟩ := h R hR
    exact ⟨ps, by rw [t.2 R z]; exact e, tr⟩
theorem tabs_ne {Ps : List Addr} {a : Addr} {H : Hp} {o : HO} (h : ∀ P ∈ Ps, GxR.TabG H P) (e : H a = some o) (n : ∀ q, o ≠ .tbl q) : a ∉ Ps := fun z => tab_ne (h a z) e n rfl
theorem tabs_new {Ps : List Addr} {p : Addr} {H : Hp} {u : HO} (h : ∀ P ∈ Ps, GxR.TabG H P) (hp : H p = none) : ∀ P ∈ Ps, GxR.TabG (L2.upd H p u) P := fun P hP => tab_upd (h P hP) (tab_free (h P hP) hp)
theorem Nws.new {Ps : List Addr} {p : Addr} {H H1 : Hp} {u : HO} (x : Nws Ps H H1) (hp : H1 p = none) : Nws Ps H (L2.upd H1 p u) :=
  ⟨x.was, tabs_new x.tab hp, fun c v n q => by rw [upd_ne (ne_of_none (x.old c v n q) hp)]; exact x.old c v n q⟩
theorem Nws.put {Ps : List Addr} {p : Addr} {H H1 : Hp} {u o : HO} (x : Nws Ps H H1) (hp : H p = none) (ho : H1 p = some o) (n : ∀ q, o ≠ .tbl q) : Nws Ps H (L2.upd H1 p u) :=
  ⟨x.was, fun P hP => tab_upd (x.tab P hP) (fun z => tab_ne (x.tab P hP) ho n z.symm), fun c v m q => by rw [upd_ne (ne_of_none q hp)]; exact x.old c v m q⟩
theorem Nws.get {Ps : List Addr} {a : Addr} {H H' : Hp} {o : HO} (x : Nws Ps H H') (e : H a = some o) (n : ∀ q, o ≠ .tbl q) : H' a = some o := x.old a o (tabs_ne x.was e n) e
theorem Nws.lst {Ps : List Addr} {a : Addr} {H H' : Hp} {xs : List V} (x : Nws Ps H H') (e : H a = some (.lst xs)) : H' a = some (.lst xs) := x.get e (fun q z => by cases z)
theorem Nws.tup {Ps : List Addr} {a : Addr} {H H' : Hp} {xs : List V} (x : Nws Ps H H') (e : H a = some (.tup xs)) : H' a = some (.tup xs) := x.get e (fun q z => by cases z)
theorem Nws.keep {Ps : List Addr} {H H' : Hp} (x : Nws Ps H H') : Keep H H' := fun b o n e => x.get e n
theorem Nws.free {Ps : List Addr} {a : Addr} {H H' : Hp} (x : Nws Ps H H') (e : H' a = none) : H a = none := by
  cases q : H a with
  | none => rfl
  | some o =>
    by_cases z : a ∈ Ps
    · obtain ⟨ps, e2, _⟩ := x.tab a z
      rw [e2] at e
      cases e
    · rw [x.old a o z q] at e
      cases e
theorem Exd.nws {Ps : List Addr} {H H' : Hp} (x : Exd H H') (t : ∀ P ∈ Ps, GxR.TabG H P) : Nws Ps H H' :=
  ⟨t, fun P hP => let ⟨ps, e, tr⟩ := t P hP; ⟨ps, x P _ e, tr⟩, fun b o _ e => x b o e⟩
/-! ### a frame's parts -/
/-- the keys and their places -/
def placesF : Nat → List Str → List (L2.Key × V)
  | _, [] => []
  | i, k :: ks => (.inr k, .int (i : Int)) :: placesF (i + 1) ks
def places (ks : List Str) : List (L2.Key × V) := placesF 0 ks
theorem placesF_app : ∀ (i : Nat) (ks : List Str) (k : Str), placesF i (ks ++ [k]) = placesF i ks ++ [(.inr k, .int ((i + ks.length : Nat) : Int))]
  | i, [], k => rfl
  | i, j :: ks, k => by
    show _ :: placesF (i + 1) (ks ++ [k]) = _ :: (placesF (i + 1) ks ++ _)
    rw [placesF_app (i + 1) ks k, List.length_cons, show i + 1 + ks.length = i + (ks.length + 1) by omega]
theorem places_len : ∀ (i : Nat) (ks : List Str), (placesF i ks).length = ks.length
  | _, [] => rfl
  | i, k :: ks => by
    show (placesF (i + 1) ks).length + 1 = ks.length + 1
    rw [places_len]
theorem places_keys : ∀ (i : Nat) (ks : List Str), (placesF i ks).map (fun kv => kV kv.1) = ks.map V.str
  | _, [] => rfl
  | i, k :: ks => by
    show V.str k :: (placesF (i + 1) ks).map _ = V.str k :: ks.map V.str
    rw [places_keys]
theorem places_val : ∀ (i : Nat) (ks : List Str) (k : Str), (valV (placesF i ks) (.inr k)).isSome = decide (k ∈ ks)
  | _, [], k => rfl
  | i, j :: ks, k => by
    have ih := places_val (i + 1) ks k
    unfold valV at ih ⊢
    show (((((.inr j, .int (i : Int)) : L2.Key × V) :: placesF (i + 1) ks).find? fun kv => decide (kv.1 = .inr k)).map (·.2)).isSome = _
    by_cases e : j = k
    · subst e
      rw [List.find?_cons_of_pos (by simp)]
      simp
    · rw [List.find?_cons_of_neg (by simpa using e), ih, decide_eq_decide, List.mem_cons]
      exact ⟨.inr, fun h => h.elim (fun z => absurd z.symm e) id⟩
theorem places_at : ∀ (i : Nat) (ks : List Str) (j : Nat) (k : Str), ks.Nodup → ks[j]? = some k → valV (placesF i ks) (.inr k) = some (.int ((i + j : Nat) : Int))
  | _, [], _, _, _, h => nomatch h
  | i, x :: ks, 0, k, _, h => by
    obtain rfl : x = k := Option.some.inj h
    unfold valV
    show (((((.inr x, .int (i : Int)) : L2.Key × V) :: placesF (i + 1) ks).find? fun kv => decide (kv.1 = .inr x)).map (·.2)) = _
    rw [List.find?_cons_of_pos (by simp)]
    rfl
  | i, x :: ks, j + 1, k, nd, h => by
    have nd' := List.nodup_cons.mp nd
    have hk : ks[j]? = some k := h
    have ne : ¬ x = k := fun z => nd'.1 (z ▸ List.mem_of_getElem? hk)
    have ih := places_at (i + 1) ks j k nd'.2 hk
    unfold valV at ih ⊢
    show (((((.inr x, .int (i : Int)) : L2.Key × V) :: placesF (i + 1) ks).find? fun kv => decide (kv.1 = .inr k)).map (·.2)) = _
    rw [List.find?_cons_of_neg (by simpa using ne), ih, show i + 1 + j = i + (j + 1) by omega]
theorem places_put {ks : List Str} {i : Nat} {k : Str} (nd : ks.Nodup) (e : ks[i]? = some k) : putK (places (ks.take i)) (.inr k) (.int (i : Int)) = places (ks.take (i + 1)) := by
  obtain ⟨hi, rfl⟩ := List.getElem?_eq_some_iff.mp e
  have no : ¬ ks[i] ∈ ks.take i := fun m => by
    obtain ⟨j, hj⟩ := List.mem_iff_getElem?.mp m
    rw [List.getElem?_take] at hj
    by_cases l : j < i
    · rw [if_pos l] at hj
      obtain ⟨hj', ej⟩ := List.getElem?_eq_some_iff.mp hj
      exact absurd ej (List.pairwise_iff_getElem.mp nd j i hj' hi l)
    · rw [if_neg l] at hj
      cases hj
  have z := places_val 0 (ks.take i) ks[i]
  rw [decide_eq_false no] at z
  have z2 : ((placesF 0 (ks.take i)).any fun kv => decide (kv.1 = .inr ks[i])) = false := by
    cases q : (placesF 0 (ks.take i)).any fun kv => decide (kv.1 = .inr ks[i]) with
    | false => rfl
    | true =>
      exfalso
      obtain ⟨y, hy, ey⟩ := List.any_eq_true.mp q
      unfold valV at z
      cases f : (placesF 0 (ks.take i)).find? fun kv => decide (kv.1 = .inr ks[i]) with
      | some v => rw [f] at z; cases z
      | none => exact absurd ey (by simpa using List.find?_eq_none.mp f y hy)
  unfold putK places
  rw [if_neg (by rw [z2]; exact Bool.false_ne_true), List.take_add_one, e]
  show _ = placesF 0 (ks.take i ++ [ks[i]])
  rw [placesF_app, List.length_take, Nat.zero_add, Nat.min_eq_left (Nat.le_of_lt hi)]
/-- the attributes, in the order in which they are stored -/
def flds (d : Addr) (days turns : Nat) : List (Str × V) := putF "_places" (.ref d) (putF "turns" (.int (turns : Int)) (putF "days" (.int (days : Int)) []))
theorem n1 : ¬ (("turns" : Str) = "_places") := by decide +kernel
theorem n2 : ¬ (("days" : Str) = "_places") := by decide +kernel
theorem n3 : ¬ (("days" : Str) = "turns") := by decide +kernel
theorem flds_days (d : Addr) (days turns : Nat) : (flds d days turns).lookup ("days" : Str) = some (.int (days : Int)) := by
  unfold flds
  rw [lookup_putF, if_neg n2, lookup_putF, if_neg n3, lookup_putF, if_pos rfl]
theorem flds_turns (d : Addr) (days turns : Nat) : (flds d days turns).lookup ("turns" : Str) = some (.int (turns : Int)) := by
  unfold flds
  rw [lookup_putF, if_neg n1, lookup_putF, if_pos rfl]
theorem flds_places (d : Addr) (days turns : Nat) : (flds d days turns).lookup ("_places" : Str) = some (.ref d) := by
  unfold flds
  rw [lookup_putF, if_pos rfl]
theorem flds_no (d : Addr) (days turns : Nat) {m : Str} (h1 : ¬ m = "_places") (h2 : ¬ m = "turns") (h3 : ¬ m = "days") : (flds d days turns).lookup m = none := by
  unfold flds
  rw [lookup_putF, if_neg h1, lookup_putF, if_neg h2, lookup_putF, if_neg h3]
  rfl
/-- a frame as it is told -/
structure Fr where
  keys : List Str
  days : Nat
  turns : Nat
/-- a Frame stands at p -/
def FrameAt (C : Addr) (H : Hp) (p : Addr) (f : Fr) : Prop := ∃ dx d, H p = some (.ins C dx (flds d f.days f.turns)) ∧ H d = some (.dK (places f.keys))
theorem FrameAt.nws {C p : Addr} {H H' : Hp} {f : Fr} {Ps : List Addr} (h : FrameAt C H p f) (x : Nws Ps H H') : FrameAt C H' p f := by
  obtain ⟨dx, d, e1, e2⟩ := h
  exact ⟨dx, d, x.get e1 (fun q z => by cases z), x.get e2 (fun q z => by cases z)⟩
theorem FrameAt.exd {C p : Addr} {H H' : Hp} {f : Fr} (h : FrameAt C H p f) (x : Exd H H') : FrameAt C H' p f := by
  obtain ⟨dx, d, e1, e2⟩ := h
  exact ⟨dx, d, x _ _ e1, x _ _ e2⟩
/-- a key: such a thing -/
def isKeyV (ks : List Str) : V → Bool
  | .str z => decide (z ∈ ks)
  | _ => false
end LL
namespace LL
open PySem PySem.Spec PyProof.Rows L2
/-! ### texts as data -/
def pds (ws : List Str) : List PyData := ws.map PyData.str
theorem dp_strs {K : PySem.W.Frag} {H : Hp} : ∀ ws : List Str, DpAll K H (ws.map V.str) (pds ws)
  | [] => .nil
  | x :: r => .cons (.str x) (dp_strs r)
theorem can_strs : ∀ ws : List Str, (∀ x ∈ ws, PyData.strOk x = true) → PyData.canLayAll0 (pds ws) = true
  | [], _ => rfl
  | x :: r, h => by
    show (PyData.canLay0 (.str x) && PyData.canLayAll0 (pds r)) = true
    rw [can_strs r fun y hy => h y (List.mem_cons_of_mem _ hy), Bool.and_true]
    exact h x List.mem_cons_self
theorem dep_strs : ∀ ws : List Str, PyData.depthAll (pds ws) ≤ 1
  | [] => by decide
  | x :: r => by
    show max (PyData.depth (.str x)) (PyData.depthAll (pds r)) ≤ 1
    have := dep_strs r
    have e : PyData.depth (.str x) ≤ 1 := by simp [PyData.depth]
    omega
theorem shaped_strs (ws : List Str) (h : ∀ x ∈ ws, PyData.strOk x = true) : SeqAt.shaped (.list (pds ws)) = true := by
  unfold SeqAt.shaped
  rw [Bool.and_eq_true]
  refine ⟨can_strs ws h, decide_eq_true ?_⟩
  show PyData.depthAll (pds ws) + 1 ≤ 64
  have := dep_strs ws
  omega
theorem eqv_strs : ∀ ws us : List Str, PyData.eqvAll (pds ws) (pds us) = decide (ws = us)
  | [], [] => rfl
  | [], _ :: _ => rfl
  | _ :: _, [] => rfl
  | x :: r, y :: t => by
    show (PyData.eqv (.str x) (.str y) && PyData.eqvAll (pds r) (pds t)) = _
    rw [eqv_strs r t, Bool.eq_iff_iff, Bool.and_eq_true, decide_eq_true_eq, decide_eq_true_eq]
    constructor
    · rintro ⟨a, b⟩
      have a' : (x == y) = true := a
      rw [beq_iff_eq.mp a', b]
    · intro e
      injection e with e1 e2
      exact ⟨show (x == y) = true from beq_iff_eq.mpr e1, e2⟩
/-- a list or a tuple of texts -/
def StrSq (H : Hp) (a : Addr) (ks : List Str) : Prop := H a = some (.lst (ks.map V.str)) ∨ H a = some (.tup (ks.map V.str))
theorem StrSq.nws {H H' : Hp} {a : Addr} {ks : List Str} {Ps : List Addr} (h : StrSq H a ks) (x : Nws Ps H H') : StrSq H' a ks := h.elim (fun e => .inl (x.lst e)) fun e => .inr (x.tup e)
theorem StrSq.exd {H H' : Hp} {a : Addr} {ks : List Str} (h : StrSq H a ks) (x : Exd H H') : StrSq H' a ks := h.elim (fun e => .inl (x _ _ e)) fun e => .inr (x _ _ e)
theorem StrSq.sq {K : PySem.W.Frag} {H : Hp} {a : Addr} {ks : List Str} (h : StrSq H a ks) : SqL K H a (ks.map V.str) ∨ SqT K H a (ks.map V.str) := h.elim (fun e => .inl (SqL.of e)) fun e => .inr (SqT.of e)
/-- {e: f for i, x in enumerate(xs)}, xs a list -/
theorem dc_enumL {K : PySem.W.Frag} {a : Addr} {xs : List V} {g : TG} {tt : TT} {tk tv : TE} {vs : List Nat} {σ : L2.St} {H1 : Hp} {D : Addr} {Qd : Hp → Prop} (J : Nat → Hp → Prop) (first : J 0 (upd H1 D (.dK []))) (still : ∀ i H, i ≤ xs.length → J i H → SqL K H a xs)
    (turn : ∀ i x H T, xs[i]? = some x → J i H → H T = none → g (.ref T) (wipe σ vs) (upd H T (.tup [.int (i : Nat), x])) fun σ2 H2 => wipe σ2 vs = wipe σ vs ∧ tt σ2 H2 fun b H3 =>
      if b = true then tk σ2 H3 fun y H4 => tv σ2 H4 fun z H5 => ∃ kvs k, y = kV k ∧ H5 D = some (.dK kvs) ∧ kvs.length < sizeLine ∧ J (i + 1) (upd H5 D (.dK (putK kvs k z))) else J (i + 1) H3) (last : ∀ H, J xs.length H → Qd H) :
    ∃ W : Nat → Nat → Hp → Prop, (∃ m, W 0 m (upd H1 D (.dK []))) ∧ ∀ i m H, W i m H →
      ((Ite K a).stop i H ∧ Qd H) ∨ ((Ite K a).go i H ∧ ∃ Nx : Hp → Prop, (∀ H', Nx H' → ∃ m', m' < m ∧ W (i + 1) m' H') ∧ ∀ x H', (Ite K a).yld i H x H' → g x (wipe σ vs) H' fun σ2 H2 => wipe σ2 vs = wipe σ vs ∧ tt σ2 H2 fun b H3 =>
        if b = true then tk σ2 H3 fun y H4 => tv σ2 H4 fun z H5 => ∃ kvs k, y = kV k ∧ H5 D = some (.dK kvs) ∧ kvs.length < sizeLine ∧ Nx (upd H5 D (.dK (putK kvs k z))) else Nx H3) := by
  refine ⟨fun i m H => m = xs.length - i ∧ i ≤ xs.length ∧ J i H, ⟨xs.length, by simp, Nat.zero_le _, first⟩, ?_⟩
  rintro i m H ⟨rfl, le, j⟩
  have sq := still i H le j
  rcases Nat.lt_or_ge i xs.length with lt | ge
  · refine .inr ⟨⟨xs, xs[i], sq, by simp [lt]⟩, J (i + 1), fun H' j' => ⟨xs.length - (i + 1), by omega, rfl, lt, j'⟩, fun y H' yl => ?_⟩
    obtain ⟨T, x, rfl, hT, rfl, e⟩ := yl
    exact turn i x H T (e xs sq) j hT
  · obtain rfl : i = xs.length := by omega
    exact .inl ⟨⟨xs, sq, Nat.le_refl _⟩, last H j⟩
/-- xs a tuple -/
theorem dc_enumT {K : PySem.W.Frag} {a : Addr} {xs : List V} {g : TG} {tt : TT} {tk tv : TE} {vs : List Nat} {σ : L2.St} {H1 : Hp} {D : Addr} {Qd : Hp → Prop} (J : Nat → Hp → Prop) (first : J 0 (upd H1 D (.dK []))) (still : ∀ i H, i ≤ xs.length → J i H → SqT K H a xs)
    (turn : ∀ i x H T, xs[i]? = some x → J i H → H T = none → g (.ref T) (wipe σ vs) (upd H T (.tup [.int (i : Nat), x])) fun σ2 H2 => wipe σ2 vs = wipe σ vs ∧ tt σ2 H2 fun b H3 =>
      if b = true then tk σ2 H3 fun y H4 => tv σ2 H4 fun z H5 => ∃ kvs k, y = kV k ∧ H5 D = some (.dK kvs) ∧ kvs.length < sizeLine ∧ J (i + 1) (upd H5 D (.dK (putK kvs k z))) else J (i + 1) H3) (last : ∀ H, J xs.length H → Qd H) :
    ∃ W : Nat → Nat → Hp → Prop, (∃ m, W 0 m (upd H1 D (.dK []))) ∧ ∀ i m H, W i m H →
      ((IteT K a).stop i H ∧ Qd H) ∨ ((IteT K a).go i H ∧ ∃ Nx : Hp → Prop, (∀ H', Nx H' → ∃ m', m' < m ∧ W (i + 1) m' H') ∧ ∀ x H', (IteT K a).yld i H x H' → g x (wipe σ vs) H' fun σ2 H2 => wipe σ2 vs = wipe σ vs ∧ tt σ2 H2 fun b H3 =>
        if b = true then tk σ2 H3 fun y H4 => tv σ2 H4 fun z H5 => ∃ kvs k, y = kV k ∧ H5 D = some (.dK kvs) ∧ kvs.length < sizeLine ∧ Nx (upd H5 D (.dK (putK kvs k z))) else Nx H3) := by
  refine ⟨fun i m H => m = xs.length - i ∧ i ≤ xs.length ∧ J i H, ⟨xs.length, by simp, Nat.zero_le _, first⟩, ?_⟩
  rintro i m H ⟨rfl, le, j⟩
  have sq := still i H le j
  rcases Nat.lt_or_ge i xs.length with lt | ge
  · refine .inr ⟨⟨xs, xs[i], sq, by simp [lt]⟩, J (i + 1), fun H' j' => ⟨xs.length - (i + 1), by omega, rfl, lt, j'⟩, fun y H' yl => ?_⟩
    obtain ⟨T, x, rfl, hT, rfl, e⟩ := yl
    exact turn i x H T (e xs sq) j hT
  · obtain rfl : i = xs.length := by omega
    exact .inl ⟨⟨xs, sq, rfl⟩, last H j⟩
/-- a frame as it is told, as data -/
def frDat (f : Fr) : PyData := .tuple [.tuple (pds f.keys), .int (f.days : Int), .int (f.turns : Int)]
theorem frDat_eqv (f g : Fr) : PyData.eqv (frDat f) (frDat g) = decide ((f.keys, f.days, f.turns) = (g.keys, g.days, g.turns)) := by
  have e : PyData.eqv (frDat f) (frDat g) = (PyData.eqvAll (pds f.keys) (pds g.keys) && (((f.days : Int) == (g.days : Int)) && (((f.turns : Int) == (g.turns : Int)) && true))) := by simp only [frDat, PyData.eqv, PyData.eqvAll]
  rw [e, eqv_strs, Bool.eq_iff_iff]
  simp only [Bool.and_eq_true, decide_eq_true_eq, beq_iff_eq, Prod.mk.injEq, and_true]
  constructor
  · rintro ⟨a, b, c⟩
    exact ⟨a, by omega, by omega⟩
  · rintro ⟨a, b, c⟩
    exact ⟨a, by omega, by omega⟩
theorem frDat_shaped {f : Fr} (h : ∀ x ∈ f.keys, PyData.strOk x = true) : SeqAt.shaped (frDat f) = true := by
  have h1 := can_strs f.keys h
  have h2 := dep_strs f.keys
  have h3 : PyData.depth (frDat f) ≤ 64 := by
    simp only [frDat, PyData.depth, PyData.depthAll]
    omega
  show (PyData.canLay0 (frDat f) && decide (PyData.depth (frDat f) ≤ 64)) = true
  rw [Bool.and_eq_true]
  exact ⟨by simp only [frDat, PyData.canLay0, PyData.canLayAll0, Bool.and_true]; exact h1, decide_eq_true h3⟩
/-- the told tuple at q -/
def ToldAt (H : Hp) (q : Addr) (f : Fr) : Prop := ∃ u, H q = some (.tup [.ref u, .int (f.days : Int), .int (f.turns : Int)]) ∧ H u = some (.tup (f.keys.map V.str))
theorem ToldAt.dp {K : PySem.W.Frag} {H : Hp} {q : Addr} {f : Fr} (h : ToldAt H q f) : Dp K H (.ref q) (frDat f) := by
  obtain ⟨u, e1, e2⟩ := h
  exact .tup (SqT.of e1) (.cons (.tup (SqT.of e2) (dp_strs _)) (.cons (.int _) (.cons (.int _) .nil)))
theorem ToldAt.exd {H H' : Hp} {q : Addr} {f : Fr} (h : ToldAt H q f) (x : Exd H H') : ToldAt H' q f := by
  obtain ⟨u, e1, e2⟩ := h
  exact ⟨u, x _ _ e1, x _ _ e2⟩
theorem ToldAt.nws {H H' : Hp} {q : Addr} {f : Fr} {Ps : List Addr} (h : ToldAt H q f) (x : Nws Ps H H') : ToldAt H' q f := by
  obtain ⟨u, e1, e2⟩ := h
  exact ⟨u, x.tup e1, x.tup e2⟩
end LL
namespace LL
open PySem PySem.Spec PyProof.Rows L2
/-! ### texts by their signs -/
def ofC (cs : List Nat) : Str := ⟨cs.toArray⟩
theorem ofC_inj {a b : List Nat} (h : ofC a = ofC b) : a = b := by
  have : a.toArray = b.toArray := congrArg Str.cps h
  simpa using congrArg Array.toList this
theorem ofC_cps (a : List Nat) : (ofC a).cps.toList = a := by simp [ofC]
theorem ofC_len (a : List Nat) : (ofC a).length = a.length := by
  show a.toArray.size = a.length
  simp
theorem ofC_app (a b : List Nat) : ofC a ++ ofC b = ofC (a ++ b) := by
  show (⟨a.toArray ++ b.toArray⟩ : Str) = ⟨(a ++ b).toArray⟩
  simp
theorem ofC_cut (a : List Nat) (k : Nat) : cutS (ofC a) none (some (k : Int)) = ofC (a.take k) := by
  unfold cutS
  rw [ofC_cps, ofC_len]
  have s1 : HT.sIx a.length 0 none = 0 := rfl
  rw [s1, HT.sIx_nat, List.drop_zero, Nat.sub_zero]
  show ofC _ = ofC _
  congr 1
  rcases Nat.le_total k a.length with h | h
  · rw [Nat.min_eq_left h]
  · rw [Nat.min_eq_right h, List.take_of_length_le (Nat.le_refl _), List.take_of_length_le h]
theorem ofC_joinS : ∀ cs : List Nat, Str.join "" (cs.map fun c => ofC [c]) = ofC cs
  | [] => rfl
  | [c] => rfl
  | c :: d :: cs => by
    have ih := ofC_joinS (d :: cs)
    show ofC [c] ++ "" ++ Str.join "" ((d :: cs).map fun c => ofC [c]) = _
    rw [ih]
    have : ofC [c] ++ ("" : Str) = ofC [c] := by rfl
    rw [this, ofC_app]
    rfl
theorem ofC_join (cs : List Nat) : Txt.join "" (cs.map fun c => ofC [c]) = ofC cs := (TL.join_eq _ _).trans (ofC_joinS cs)
/-! ### the law's names: a letter, then nothing, or a z or q and more -/
def low (c : Nat) : Prop := 97 ≤ c ∧ c < 123
theorem low_in {c : Nat} (h : low c) : c ∈ ("abcdefghijklmnopqrstuvwxyz" : Str).cps.toList := by
  have all : ∀ c, c < 123 → 97 ≤ c → c ∈ ("abcdefghijklmnopqrstuvwxyz" : Str).cps.toList := by decide +kernel
  exact all c h.2 h.1
theorem let_at {i : Nat} (h : i < 26) : atI ("abcdefghijklmnopqrstuvwxyz" : Str).cps.toList (i : Int) = some (97 + i) := by
  refine atI_nat ?_
  have all : ∀ i, i < 26 → ("abcdefghijklmnopqrstuvwxyz" : Str).cps.toList[i]? = some (97 + i) := by decide +kernel
  exact all i h
/-- such a name's signs -/
structure Nm (cs : List Nat) : Prop where
  low : ∀ c ∈ cs, low c
  one : 1 ≤ cs.length
  eight : cs.length ≤ 8
  two : ∀ c, cs[1]? = some c → c = 122 ∨ c = 113
/-- the i-th letter's place -/
def lx (s k : Nat) : Nat := 97 + (s + k) % 26
theorem lx_low (s k : Nat) : low (lx s k) := by
  unfold low lx
  omega
/-- the first kind -/
def nmA (s : Nat) (T : List Nat) (k : Nat) : List Nat := lx s (k / 6) :: 122 :: T.take (k % 6)
theorem nmA_ok {s k : Nat} {T : List Nat} (h : ∀ c ∈ T, low c) : Nm (nmA s T k) where
  low := fun c hc => by
    rcases List.mem_cons.mp hc with rfl | hc
    · exact lx_low _ _
    · rcases List.mem_cons.mp hc with rfl | hc
      · exact ⟨by decide, by decide⟩
      · exact h c (List.mem_of_mem_take hc)
  one := by simp [nmA]
  eight := by
    show (T.take (k % 6)).length + 1 + 1 ≤ 8
    rw [List.length_take]
    omega
  two := fun c hc => .inl (by
    have : some 122 = some c := hc
    exact (Option.some.inj this).symm)
theorem nmA_len {s k : Nat} {T : List Nat} (hT : T.length = 7) : (nmA s T k).length = 2 + k % 6 := by
  show (T.take (k % 6)).length + 1 + 1 = _
  rw [List.length_take]
  omega
theorem nmA_apart {s j k : Nat} {T : List Nat} (hT : T.length = 7) (h : j < k) (hk : k < 12) : nmA s T j ≠ nmA s T k := fun e => by
  have l := congrArg List.length e
  rw [nmA_len hT, nmA_len hT] at l
  have f : lx s (j / 6) = lx s (k / 6) := by
    injection e
  unfold lx at f
  omega
/-- the second kind -/
def nmB (s k : Nat) (U : List Nat) : List Nat := lx s (7 * k) :: U
theorem nmB_ok {s k : Nat} {U : List Nat} (h : ∀ c ∈ U, low c) (l : U.length ≤ 7) (z : ∀ c, U[0]? = some c → c = 122 ∨ c = 113) : Nm (nmB s k U) where
  low := fun c hc => by
    rcases List.mem_cons.mp hc with rfl | hc
    · exact lx_low _ _
    · exact h c hc
  one := by simp [nmB]
  eight := by
    show U.length + 1 ≤ 8
    omega
  two := fun c hc => z c hc
theorem nmB_apart {s j k : Nat} {U W : List Nat} (h : j < k) (hk : k < 12) : nmB s j U ≠ nmB s k W := fun e => by
  have f : lx s (7 * j) = lx s (7 * k) := by
    injection e
  unfold lx at f
  omega
/-- an object that is new since H is changed -/
theorem Kept.put {a p : Addr} {H H1 : Hp} {u : HO} (x : Kept a H H1) (hp : H p = none) (n : p ≠ a) : Kept a H (L2.upd H1 p u) := by
  obtain ⟨⟨o, e, b⟩, old⟩ := x
  exact ⟨⟨o, by rw [upd_ne n.symm]; exact e, b⟩, fun c v m q => by rw [upd_ne (ne_of_none q hp)]; exact old c v m q⟩
end LL
namespace LL
open PySem PySem.Spec PyProof.Rows L2
/-! ### a box and tables change, the rest is kept -/
structure Kbs (a : Addr) (Ps : List Addr) (H H' : Hp) : Prop where
  box : ∃ o, H' a = some o ∧ BoxO o
  tab : ∀ P ∈ Ps, GxR.TabG H' P
  old : ∀ b o, b ≠ a → b ∉ Ps → H b = some o → H' b = some o
theorem box_tabs {a : Addr} {Ps : List Addr} {H : Hp} (b : ∃ o, H a = some o ∧ BoxO o) (t : ∀ P ∈ Ps, GxR.TabG H P) : a ∉ Ps := fun m => box_tab b (t a m) rfl
theorem Kbs.refl {a : Addr} {Ps : List Addr} {H : Hp} (b : ∃ o, H a = some o ∧ BoxO o) (t : ∀ P ∈ Ps, GxR.TabG H P) : Kbs a Ps H H := ⟨b, t, fun _ _ _ _ e => e⟩
theorem Kbs.kept {a : Addr} {Ps : List Addr} {H H1 H2 : Hp} (x : Kbs a Ps H H1) (y : Kept a H1 H2) : Kbs a Ps H H2 := ⟨y.box, fun P hP => y.tab x.box (x.tab P hP), fun b o n m e => y.old b o n (x.old b o n m e)⟩
theorem Kbs.nws {a : Addr} {Ps : List Addr} {H H1 H2 : Hp} (x : Kbs a Ps H H1) (y : Nws Ps H1 H2) : Kbs a Ps H H2 := by
  have n := box_tabs x.box x.tab
  obtain ⟨o, e, b⟩ := x.box
  exact ⟨⟨o, y.old a o n e, b⟩, y.tab, fun c u m k q => y.old c u k (x.old c u m k q)⟩
theorem Kbs.exd {a : Addr} {Ps : List Addr} {H H1 H2 : Hp} (x : Kbs a Ps H H1) (y : Exd H1 H2) : Kbs a Ps H H2 := x.kept (y.kept x.box)
theorem Kbs.trans {a : Addr} {Ps : List Addr} {H H1 H2 : Hp} (x : Kbs a Ps H H1) (y : Kbs a Ps H1 H2) : Kbs a Ps H H2 := ⟨y.box, y.tab, fun b o n m e => y.old b o n m (x.old b o n m e)⟩
theorem Kbs.new {a p : Addr} {Ps : List Addr} {H H1 : Hp} {u : HO} (x : Kbs a Ps H H1) (hp : H1 p = none) : Kbs a Ps H (L2.upd H1 p u) := x.exd ((Exd.refl _).new hp)
theorem Kbs.toNws {a : Addr} {Ps : List Addr} {H0 H H' : Hp} (x : Kbs a Ps H H') (n : Nws Ps H0 H) (h : H0 a = none) : Nws Ps H0 H' :=
  ⟨n.was, x.tab, fun c o m e => x.old c o (fun z => by rw [z, h] at e; cases e) m (n.old c o m e)⟩
theorem Kbs.get {a b : Addr} {Ps : List Addr} {H H' : Hp} {o : HO} (x : Kbs a Ps H H') (t : ∀ P ∈ Ps, GxR.TabG H P) (n : b ≠ a) (e : H b = some o) (no : ∀ q, o ≠ .tbl q) : H' b = some o := x.old b o n (tabs_ne t e no) e
theorem Kbs.lst {a b : Addr} {Ps : List Addr} {H H' : Hp} {xs : List V} (x : Kbs a Ps H H') (t : ∀ P ∈ Ps, GxR.TabG H P) (n : b ≠ a) (e : H b = some (.lst xs)) : H' b = some (.lst xs) := x.get t n e (fun q z => by cases z)
theorem FrameAt.kbs {C p a : Addr} {H H' : Hp} {f : Fr} {Ps : List Addr} (h : FrameAt C H p f) (b : ∃ o, H a = some o ∧ BoxO o) (t : ∀ P ∈ Ps, GxR.TabG H P) (x : Kbs a Ps H H') : FrameAt C H' p f := by
  obtain ⟨dx, d, e1, e2⟩ := h
  obtain ⟨o, eb, x0, y0, z0, rfl, _⟩ := b
  exact ⟨dx, d, x.get t (fun z => by rw [z, eb] at e1; cases e1) e1 (fun q z => by cases z), x.get t (fun z => by rw [z, eb] at e2; cases e2) e2 (fun q z => by cases z)⟩
theorem Kbs.free {a b : Addr} {Ps : List Addr} {H H' : Hp} (x : Kbs a Ps H H') (e : H' b = none) : H b = none := by
  cases q : H b with
  | none => rfl
  | some o =>
    by_cases z : b = a
    · obtain ⟨o', e', _⟩ := x.box
      rw [z, e'] at e
      cases e
    · by_cases z2 : b ∈ Ps
      · obtain ⟨ps, e2, _⟩ := x.tab b z2
        rw [e2] at e
        cases e
      · rw [x.old b o z z2 q] at e
        cases e
/-! ### what repr asks of names -/
theorem sm_str {z : Str} (h : PyData.strOk z = true) : Sm (.str z) 0 z.cps.size :=
  ⟨by simp only [PyData.canLay0]; exact h, by simp only [PyData.showable], by simp only [PyData.intsShort], by simp only [PyData.depth]; exact Nat.le_refl _, by simp only [PyData.weight]; exact Nat.le_refl _⟩
theorem sm_frame {f : Fr} (h : ∀ z ∈ f.keys, PyData.strOk z = true ∧ z.cps.size ≤ 8) (l : f.keys.length ≤ 12) (d : f.days ≤ 400) (u : f.turns ≤ 400) : Sm (frDat f) 60 1048576 := by
  have a := (smAll_of (ds := pds f.keys) (k := 0) (W := 8) fun x hx => by
    obtain ⟨z, hz, rfl⟩ := List.mem_map.mp hx
    exact (sm_str (h z hz).1).mono (Nat.le_refl _) (h z hz).2).tuple
  have ln : (pds f.keys).length = f.keys.length := List.length_map _
  have b := (SmAll.cons a (SmAll.cons (sm_nat (n := f.days) (by omega)) (SmAll.cons (sm_nat (n := f.turns) (by omega)) smAll_nil))).tuple
  refine b.mono (by decide) ?_
  rw [ln]
  omega
end LL
namespace LL
open PySem PySem.Spec PyProof.Rows L2
/-! ### tools for draws -/
theorem obj_of {H H1 : Hp} {q : Addr} {u : HO} (hq : H q = none) (e : upd H q u = H1) : Exd H H1 ∧ H1 q = some u := by
  rw [← e]
  exact ⟨(Exd.refl _).new hq, upd_same⟩
theorem at_mem {xs : List V} {r : Int} (h0 : 0 ≤ r) (h1 : r < (xs.length : Int)) : ∃ v, atI xs r = some v ∧ v ∈ xs := by
  obtain ⟨k, rfl⟩ : ∃ k : Nat, r = (k : Int) := ⟨r.toNat, (Int.toNat_of_nonneg h0).symm⟩
  have hk : k < xs.length := by omega
  exact ⟨xs[k], atI_nat (List.getElem?_eq_getElem hk), List.getElem_mem hk⟩
/-- a box stands at a -/
def Bx (H : Hp) (a : Addr) : Prop := ∃ o, H a = some o ∧ BoxO o
def noBox : HO → Bool
  | .lst [.int _, .int _, .int _] => false
  | _ => true
theorem Kept.get {a q : Addr} {H H' : Hp} {u : HO} (x : Kept a H H') (b : Bx H a) (e : H q = some u) (n : noBox u = true) : H' q = some u := by
  refine x.old q u (fun z => ?_) e
  obtain ⟨o, ea, x0, y0, z0, rfl, _⟩ := b
  rw [z, ea] at e
  cases e
  cases n
theorem Kept.getN {a q : Addr} {H H0 H' : Hp} {u : HO} (x : Kept a H H') (e : H q = some u) (b : Bx H0 a) (hq : H0 q = none) : H' q = some u := by
  refine x.old q u (fun z => ?_) e
  obtain ⟨o, ea, _⟩ := b
  rw [z, ea] at hq
  cases hq
theorem Bx.exd {a : Addr} {H H' : Hp} (b : Bx H a) (x : Exd H H') : Bx H' a := by
  obtain ⟨o, e, bo⟩ := b
  exact ⟨o, x _ _ e, bo⟩
theorem Kept.bx {a : Addr} {H H' : Hp} (x : Kept a H H') : Bx H' a := x.box
theorem noBox_strs {ks : List Str} : noBox (.lst (ks.map V.str)) = true := by
  match ks with
  | [] => rfl
  | [_] => rfl
  | [_, _] => rfl
  | [_, _, _] => rfl
  | _ :: _ :: _ :: _ :: _ => rfl
theorem sz {n : Nat} (hn : n ≤ 1000) : n ≤ sizeLine := by
  have := PySem.sizeLine_eq
  omega
theorem int_of {r : Int} (h : 0 ≤ r) : ∃ n : Nat, r = (n : Int) := ⟨r.toNat, (Int.toNat_of_nonneg h).symm⟩
theorem low_strOk {cs : List Nat} (h : ∀ c ∈ cs, low c) : PyData.strOk (ofC cs) = true := by
  unfold PyData.strOk
  rw [Array.all_eq_true']
  intro c hc
  have hc : c ∈ cs := by simpa [ofC] using hc
  have := (h c hc).2
  exact decide_eq_true (by omega)
end LL
namespace LL
open PySem PySem.Spec PyProof.Rows L2
/-! ### the check of a row of numbers, as mathematics -/
theorem bits_two (a b : Nat) : (a ^^^ b) % 2 = (a + b) % 2 ∧ (a &&& b) % 2 = (a % 2) * (b % 2) ∧ (a ||| b) % 2 = (a % 2) + (b % 2) - (a % 2) * (b % 2) := by
  have x := Nat.testBit_xor a b 0
  have y := Nat.testBit_and a b 0
  have z := Nat.testBit_or a b 0
  simp only [Nat.testBit_zero] at x y z
  have p := Nat.mod_two_eq_zero_or_one (a ^^^ b)
  have p2 := Nat.mod_two_eq_zero_or_one (a &&& b)
  have p3 := Nat.mod_two_eq_zero_or_one (a ||| b)
  have q := Nat.mod_two_eq_zero_or_one a
  have r := Nat.mod_two_eq_zero_or_one b
  refine ⟨?_, ?_, ?_⟩
  · rcases p with p | p <;> rcases q with q | q <;> rcases r with r | r <;> simp [p, q, r] at x <;> omega
  · rcases p2 with p | p <;> rcases q with q | q <;> rcases r with r | r <;> simp [p, q, r] at y ⊢
  · rcases p3 with p | p <;> rcases q with q | q <;> rcases r with r | r <;> simp [p, q, r] at z ⊢
theorem add_by_bits : ∀ a b : Nat, a + b = (a ^^^ b) + 2 * (a &&& b) ∧ (a ||| b) = (a ^^^ b) + (a &&& b) := by
  intro a
  induction a using Nat.strongRecOn with
  | _ a ih =>
    intro b
    by_cases ha : a = 0
    · subst ha
      simp
    · have h := ih (a / 2) (by omega) (b / 2)
      have x1 : (a ^^^ b) / 2 = a / 2 ^^^ b / 2 := Nat.xor_div_two
      have y1 : (a &&& b) / 2 = a / 2 &&& b / 2 := Nat.and_div_two
      have z1 : (a ||| b) / 2 = a / 2 ||| b / 2 := Nat.or_div_two
      obtain ⟨x2, y2, z2⟩ := bits_two a b
      have q := Nat.mod_two_eq_zero_or_one a
      have r := Nat.mod_two_eq_zero_or_one b
      rw [← x1, ← y1, ← z1] at h
      rcases q with q | q <;> rcases r with r | r <;> rw [q, r] at y2 z2 <;> omega
theorem xor_masks (a b : Nat) : Builtin.bitXor (a : Int) (b : Int) = ((a ^^^ b : Nat) : Int) := by
  unfold Builtin.bitXor
  rw [or_masks, and_masks]
  have := (add_by_bits a b).2
  omega
theorem crossed_masks (a b : Nat) : (a : Int) + (b : Int) - 2 * Builtin.bitAnd (a : Int) (b : Int) = ((a ^^^ b : Nat) : Int) := by
  rw [and_masks]
  have := (add_by_bits a b).1
  omega
@[irreducible] def cB : Nat := 4294967296
@[irreducible] def cT : Nat := 2654435769
@[irreducible] def cM : Nat := 40503
@[irreducible] def cS : Nat := 2166136261
theorem cB_eq : cB = 4294967296 := by unfold cB; rfl
theorem cT_eq : cT = 2654435769 := by unfold cT; rfl
theorem cM_eq : cM = 40503 := by unfold cM; rfl
theorem cS_eq : cS = 2166136261 := by unfold cS; rfl
theorem cB_pow : cB = 2 ^ 32 := by rw [cB_eq]
theorem cB_pos : 0 < cB := by rw [cB_pow]; exact Nat.two_pow_pos 32
theorem start_lt : cS < cB := by rw [cS_eq, cB_eq]; decide +kernel
def mixN (c n : Nat) : Nat := ((c ^^^ n) * cT + cM) % cB
def halfN (d : Nat) : Nat := d ^^^ (d / 2 ^ 15)
@[irreducible] def stepN (c n : Nat) : Nat := halfN (mixN c n)
def chkN (ns : List Nat) : Nat := ns.foldl stepN cS
theorem xor32 {a b : Nat} (ha : a < cB) (hb : b < cB) : a ^^^ b < cB := by
  rw [cB_pow] at *
  exact Nat.xor_lt_two_pow ha hb
theorem mix_lt (c n : Nat) : mixN c n < cB := Nat.mod_lt _ cB_pos
theorem half_lt {d : Nat} (h : d < cB) : halfN d < cB := xor32 h (Nat.lt_of_le_of_lt (Nat.div_le_self _ _) h)
theorem step_lt (c n : Nat) : stepN c n < cB := by
  unfold stepN
  exact half_lt (mix_lt c n)
theorem xor_back (x y z : Nat) : (x ^^^ y) ^^^ (y ^^^ z) ^^^ z = x := by
  rw [Nat.xor_assoc x y, ← Nat.xor_assoc y y z, Nat.xor_self, Nat.zero_xor, Nat.xor_assoc, Nat.xor_self, Nat.xor_zero]
theorem half_back {d : Nat} (h : d < cB) : halfN d ^^^ (halfN d / 2 ^ 15) ^^^ (halfN d / 2 ^ 30) = d := by
  have e1 : halfN d / 2 ^ 15 = d / 2 ^ 15 ^^^ d / 2 ^ 30 := by
    unfold halfN
    rw [Nat.xor_div_two_pow, Nat.div_div_eq_div_mul, ← Nat.pow_add]
  have e2 : halfN d / 2 ^ 30 = d / 2 ^ 30 := by
    unfold halfN
    rw [Nat.xor_div_two_pow, Nat.div_div_eq_div_mul, ← Nat.pow_add]
    have z : d / 2 ^ (15 + 30) = 0 := Nat.div_eq_of_lt (Nat.lt_of_lt_of_le h (by rw [cB_pow]; exact Nat.pow_le_pow_right (by decide) (by decide)))
    rw [z, Nat.xor_zero]
  rw [e1, e2]
  exact xor_back _ _ _
theorem half_inj {d e : Nat} (hd : d < cB) (he : e < cB) (h : halfN d = halfN e) : d = e := by
  rw [← half_back hd, ← half_back he, h]
theorem mul_back {T M B I k c x : Nat} (hT : T * I = 1 + B * k) (hc : M + c = B) (hx : x < B) : (((x * T + M) % B + c) * I) % B = x := by
  have q := Nat.div_add_mod (x * T + M) B
  generalize (x * T + M) % B = r at q ⊢
  generalize (x * T + M) / B = z at q
  have e : (r + c) * I + B * (z * I) = x + B * (x * k + I) := by
    have e1 : (r + c) * I + B * (z * I) = (B * z + r + c) * I := by
      rw [← Nat.mul_assoc, Nat.add_assoc (B * z), Nat.add_mul (B * z)]
      exact Nat.add_comm _ _
    rw [e1, q, Nat.add_assoc, hc, Nat.add_mul, Nat.mul_assoc, hT, Nat.mul_add, Nat.mul_add, Nat.mul_one, Nat.add_assoc, ← Nat.mul_assoc, Nat.mul_comm x B, Nat.mul_assoc]
  have m : ((r + c) * I + B * (z * I)) % B = (x + B * (x * k + I)) % B := by rw [e]
  rw [Nat.add_mul_mod_self_left, Nat.add_mul_mod_self_left, Nat.mod_eq_of_lt hx] at m
  exact m
theorem c_inv : cT * 340573321 = 1 + cB * 210485888 := by rw [cT_eq, cB_eq]
theorem c_rest : cM + 4294926793 = cB := by rw [cM_eq, cB_eq]
theorem mul_inj {x y : Nat} (hx : x < cB) (hy : y < cB) (h : (x * cT + cM) % cB = (y * cT + cM) % cB) : x = y := by
  rw [← mul_back c_inv c_rest hx, ← mul_back c_inv c_rest hy, h]
theorem xor_left_inj {a b c : Nat} (h : a ^^^ c = b ^^^ c) : a = b := by
  have := congrArg (· ^^^ c) h
  simp only [Nat.xor_assoc, Nat.xor_self, Nat.xor_zero] at this
  exact this
theorem step_inj_left {c d n : Nat} (hc : c < cB) (hd : d < cB) (hn : n < cB) (h : stepN c n = stepN d n) : c = d := by
  unfold stepN at h
  exact
  xor_left_inj (mul_inj (xor32 hc hn) (xor32 hd hn) (half_inj (mix_lt _ _) (mix_lt _ _) h))
theorem step_inj_right {c n m : Nat} (hc : c < cB) (hn : n < cB) (hm : m < cB) (h : stepN c n = stepN c m) : n = m := by
  unfold stepN at h
  have := mul_inj (xor32 hc hn) (xor32 hc hm) (half_inj (mix_lt _ _) (mix_lt _ _) h)
  rw [Nat.xor_comm c n, Nat.xor_comm c m] at this
  exact xor_left_inj this
theorem fold_lt (ns : List Nat) : ∀ {c : Nat}, c < cB → ns.foldl stepN c < cB := by
  induction ns with
  | nil => exact fun h => h
  | cons n ns ih => exact fun _ => ih (step_lt _ _)
theorem chk_lt (ns : List Nat) : chkN ns < cB := fold_lt ns start_lt
theorem fold_snoc (f : Nat → Nat → Nat) (c : Nat) (xs : List Nat) (a : Nat) : (xs ++ [a]).foldl f c = f (xs.foldl f c) a := by
  simp only [List.foldl_append, List.foldl_cons, List.foldl_nil]
theorem fold_one (f : Nat → Nat → Nat) (s B : Nat) (lt : ∀ c n, f c n < B) (hs : s < B) (inj : ∀ c d n, c < B → d < B → n < B → f c n = f d n → c = d) (inj2 : ∀ c n m, c < B → n < B → m < B → f c n = f c m → n = m)
    (fl : ∀ (ns : List Nat) c, c < B → ns.foldl f c < B) {xs ys : List Nat} {a b : Nat} (hy : ∀ n ∈ ys, n < B) (ha : a < B) (hb : b < B) : (xs ++ [a] ++ ys).foldl f s = (xs ++ [b] ++ ys).foldl f s ↔ a = b := by
  refine ⟨fun h => ?_, fun h => by rw [h]⟩
  rw [List.foldl_append, List.foldl_append (f := f) (l := xs ++ [b]), fold_snoc, fold_snoc] at h
  have go : ∀ (ys : List Nat), (∀ n ∈ ys, n < B) → ∀ c d, c < B → d < B → ys.foldl f c = ys.foldl f d → c = d := by
    intro ys
    induction ys with
    | nil => exact fun _ _ _ _ _ h => h
    | cons n ns ih =>
      intro hn c d hc hd h
      exact inj c d n hc hd (hn n List.mem_cons_self) (ih (fun m hm => hn m (List.mem_cons_of_mem _ hm)) _ _ (lt _ _) (lt _ _) h)
  exact inj2 _ _ _ (fl xs s hs) ha hb (go ys hy _ _ (lt _ _) (lt _ _) h)
theorem chk_one {xs ys : List Nat} {a b : Nat} (hy : ∀ n ∈ ys, n < cB) (ha : a < cB) (hb : b < cB) : chkN (xs ++ [a] ++ ys) = chkN (xs ++ [b] ++ ys) ↔ a = b :=
  fold_one stepN cS cB step_lt start_lt (fun _ _ _ => step_inj_left) (fun _ _ _ => step_inj_right) (fun ns _ h => fold_lt ns h) hy ha hb
theorem chk_snoc (xs : List Nat) (a : Nat) : chkN (xs ++ [a]) = stepN (chkN xs) a := fold_snoc stepN cS xs a
/-! ### lists of numbers in the heap -/
abbrev numV (ns : List Nat) : List V := ns.map fun n : Nat => V.int (n : Int)
theorem numV_len (ns : List Nat) : (numV ns).length = ns.length := List.length_map _
theorem numV_get {ns : List Nat} {i : Nat} {x : V} (h : (numV ns)[i]? = some x) : ∃ n, ns[i]? = some n ∧ x = .int (n : Int) := by
  rw [List.getElem?_map] at h
  cases q : ns[i]? with
  | none => rw [q] at h; cases h
  | some n =>
    rw [q] at h
    exact ⟨n, rfl, (Option.some.inj h).symm⟩
end LL
namespace LL
open PySem
/-! ### words of 32 figures, masks, and which numbers they hold -/
/-- the number whose words these are, the lowest first -/
def maskW : List Nat → Nat
  | [] => 0
  | w :: ws => w + 2 ^ 32 * maskW ws
/-- the sum of words, each at its place, from a place on -/
def sumW : Nat → List Nat → Nat
  | _, [] => 0
  | k, w :: ws => w * 2 ^ (32 * k) + sumW (k + 1) ws
theorem sumW_eq : ∀ (ws : List Nat) (k : Nat), sumW k ws = 2 ^ (32 * k) * maskW ws
  | [], k => by simp [sumW, maskW]
  | w :: ws, k => by
    have e : 32 * (k + 1) = 32 * k + 32 := by omega
    rw [sumW, sumW_eq ws (k + 1), maskW, e, Nat.pow_add, Nat.mul_assoc, Nat.mul_comm w, ← Nat.mul_add]
theorem maskW_digit : ∀ (ws : List Nat) (i : Nat), (∀ w ∈ ws, w < 2 ^ 32) → maskW ws / 2 ^ (32 * i) % 2 ^ 32 = ws.getD i 0
  | [], i, _ => by simp [maskW]
  | w :: ws, 0, h => by
    have hw := h w List.mem_cons_self
    rw [maskW, Nat.mul_zero, Nat.pow_zero, Nat.div_one, Nat.add_mul_mod_self_left, Nat.mod_eq_of_lt hw]
    rfl
  | w :: ws, i + 1, h => by
    have hw := h w List.mem_cons_self
    have ih := maskW_digit ws i fun v hv => h v (List.mem_cons_of_mem _ hv)
    rw [maskW]
    have e : 32 * (i + 1) = 32 + 32 * i := by omega
    rw [e, Nat.pow_add, ← Nat.div_div_eq_div_mul, Nat.add_mul_div_left _ _ (by decide), Nat.div_eq_of_lt hw, Nat.zero_add, ih]
    rfl
theorem maskW_bit (ws : List Nat) (n : Nat) (h : ∀ w ∈ ws, w < 2 ^ 32) : (maskW ws).testBit n = (ws.getD (n / 32) 0).testBit (n % 32) := by
  rw [← maskW_digit ws (n / 32) h, Nat.testBit_mod_two_pow, Nat.testBit_div_two_pow, decide_eq_true (Nat.mod_lt _ (by decide)), Bool.true_and]
  congr 1
  omega
/-- the sixteen words of a number -/
def wordsM (M : Nat) : List Nat := (List.range 16).map fun i => M / 2 ^ (32 * i) % 2 ^ 32
theorem wordsM_len (M : Nat) : (wordsM M).length = 16 := by
  unfold wordsM
  rw [List.length_map, List.length_range]
theorem wordsM_lt (M : Nat) : ∀ w ∈ wordsM M, w < 2 ^ 32 := fun w hw => by
  obtain ⟨i, _, rfl⟩ := List.mem_map.mp hw
  exact Nat.mod_lt _ (by decide)
theorem wordsM_mask {ws : List Nat} (l : ws.length = 16) (h : ∀ w ∈ ws, w < 2 ^ 32) : wordsM (maskW ws) = ws := by
  apply List.ext_getElem?
  intro i
  unfold wordsM
  rw [List.getElem?_map]
  by_cases hi : i < 16
  · rw [List.getElem?_range hi]
    show some (maskW ws / 2 ^ (32 * i) % 2 ^ 32) = _
    rw [maskW_digit ws i h, List.getElem?_eq_getElem (by omega), List.getD_eq_getElem?_getD, List.getElem?_eq_getElem (by omega)]
    rfl
  · rw [List.getElem?_eq_none (by rw [List.length_range]; omega), List.getElem?_eq_none (by omega)]
    rfl
/-- the numbers whose figure is set -/
def usedM (M : Nat) : List Nat := (List.range 512).filter fun n => M.testBit n
/-- so many figures set -/
def setM (us : List Nat) : Nat := us.foldl (fun m n => m ||| 2 ^ n) 0
theorem setM_from : ∀ (us : List Nat) (m i : Nat), (us.foldl (fun m n => m ||| 2 ^ n) m).testBit i = (m.testBit i || decide (i ∈ us))
  | [], m, i => by simp
  | n :: us, m, i => by
    rw [List.foldl_cons, setM_from us, Nat.testBit_or, Nat.testBit_two_pow]
    by_cases e : n = i
    · subst e
      simp
    · have e2 : ¬ i = n := fun z => e z.symm
      simp [e, e2]
theorem setM_bit (us : List Nat) (i : Nat) : (setM us).testBit i = decide (i ∈ us) := by
  unfold setM
  rw [setM_from]
  simp
theorem setM_snoc (us : List Nat) (n : Nat) : setM (us ++ [n]) = setM us ||| 2 ^ n := by
  unfold setM
  rw [List.foldl_append]
  rfl
theorem setM_congr {us vs : List Nat} (h : ∀ i, i ∈ us ↔ i ∈ vs) : setM us = setM vs := by
  apply Nat.eq_of_testBit_eq
  intro i
  rw [setM_bit, setM_bit]
  exact decide_eq_decide.mpr (h i)
/-- rising, none twice -/
def Rise (us : List Nat) : Prop := us.Pairwise (· < ·)
theorem usedM_set {us : List Nat} (r : Rise us) (h : ∀ n ∈ us, n < 512) : usedM (setM us) = us := by
  have e : usedM (setM us) = (List.range 512).filter fun n => decide (n ∈ us) := by
    unfold usedM
    exact List.filter_congr fun n _ => setM_bit us n
  rw [e]
  have r1 : ((List.range 512).filter fun n => decide (n ∈ us)).Pairwise (· < ·) := List.Pairwise.filter _ List.pairwise_lt_range
  refine List.Perm.eq_of_pairwise (le := (· < ·)) (fun a b _ _ h1 h2 => absurd h1 (by omega)) r1 r ?_
  refine (List.perm_ext_iff_of_nodup (List.Pairwise.imp (fun h => Nat.ne_of_lt h) r1) (List.Pairwise.imp (fun h => Nat.ne_of_lt h) r)).mpr fun n => ?_
  simp only [List.mem_filter, List.mem_range, decide_eq_true_eq]
  exact ⟨fun z => z.2, fun z => ⟨h n z, z⟩⟩
/-- the sum of the powers -/
def sumP (us : List Nat) : Nat := (us.map fun n => 2 ^ n).sum
theorem sumP_div : ∀ (us : List Nat) (k : Nat), (∀ n ∈ us, k ≤ n) → 2 ^ k ∣ sumP us
  | [], k, _ => ⟨0, rfl⟩
  | n :: us, k, h => by
    have a : 2 ^ k ∣ 2 ^ n := Nat.pow_dvd_pow 2 (h n List.mem_cons_self)
    have b := sumP_div us k fun m hm => h m (List.mem_cons_of_mem _ hm)
    have e : sumP (n :: us) = 2 ^ n + sumP us := by simp [sumP]
    rw [e]
    exact Nat.dvd_add a b
theorem sumP_bit : ∀ (us : List Nat) (i : Nat), Rise us → (sumP us).testBit i = decide (i ∈ us)
  | [], i, _ => by simp [sumP]
  | n :: us, i, r => by
    obtain ⟨r1, r2⟩ := List.pairwise_cons.mp r
    have ih := sumP_bit us i r2
    obtain ⟨q, hq⟩ := sumP_div us (n + 1) fun m hm => r1 m hm
    have e : sumP (n :: us) = 2 ^ (n + 1) * q + 2 ^ n := by
      rw [← hq]
      simp [sumP, Nat.add_comm]
    have lt : 2 ^ n < 2 ^ (n + 1) := Nat.pow_lt_pow_right (by decide) (by omega)
    rw [e, Nat.two_pow_add_eq_or_of_lt lt, Nat.testBit_or, ← hq, ih, Nat.testBit_two_pow]
    by_cases c : n = i
    · subst c
      simp
    · have c2 : ¬ i = n := fun z => c z.symm
      simp [c, c2]
/-- the word of the numbers at a place -/
theorem word_at {us : List Nat} (r : Rise us) (k : Nat) : sumP ((us.filter fun n => n / 32 == k).map fun n => n - 32 * k) = setM us / 2 ^ (32 * k) % 2 ^ 32 := by
  have r1 : Rise ((us.filter fun n => n / 32 == k).map fun n => n - 32 * k) := by
    unfold Rise
    rw [List.pairwise_map]
    refine (List.Pairwise.filter _ r).imp_of_mem fun {a b} ha hb h => ?_
    have ha := (List.mem_filter.mp ha).2
    have hb := (List.mem_filter.mp hb).2
    simp only [beq_iff_eq] at ha hb
    omega
  apply Nat.eq_of_testBit_eq
  intro i
  rw [sumP_bit _ _ r1, Nat.testBit_mod_two_pow, Nat.testBit_div_two_pow, setM_bit, ← Bool.decide_and]
  apply decide_eq_decide.mpr
  simp only [List.mem_map, List.mem_filter, beq_iff_eq]
  constructor
  · rintro ⟨n, ⟨hn, hk⟩, rfl⟩
    refine ⟨by omega, ?_⟩
    have e : 32 * k + (n - 32 * k) = n := by omega
    first
      | (rw [e]; exact hn)
      | (rw [Nat.add_comm, e]; exact hn)
  · rintro ⟨hi, hm⟩
    refine ⟨32 * k + i, ⟨by first | exact hm | (rw [Nat.add_comm]; exact hm), by omega⟩, by omega⟩
end LL
namespace LL
open PySem PySem.Spec PyProof.Rows L2
/-! ### try with several except clauses, named or not, one of which takes what is raised -/
abbrev SuT := Addr → Value → Option Addr → TS
inductive HdsA (X : Cx) : List ExceptHandler → List (Value × Option Nat × SuT) → Prop
  | nil : HdsA X [] []
  | plain {x : Str} {c : Value} {ts : SuT} {b₀ : Stmt} {suite : List Stmt} {np pos' : Pos} {hds : List ExceptHandler} {l : List (Value × Option Nat × SuT)} (hc : Names X x c)
      (hsu : ∀ (a : Addr) (oe : Obj) (cls : Value) (d : Option Addr) (pn : List (Addr × Obj)), Zc cls d oe → (∃ vs, oe.data = .fields vs) → PSs (X.suite a ((a, oe) :: pn)) (b₀ :: suite) (ts a cls d))
      (r : HdsA X hds l) : HdsA X (.ExceptHandler (some (.Name x np)) none (b₀ :: suite) pos' :: hds) ((c, none, ts) :: l)
  | named {x n : Str} {i : Nat} {c : Value} {ts : SuT} {b₀ : Stmt} {suite : List Stmt} {np pos' : Pos} {hds : List ExceptHandler} {l : List (Value × Option Nat × SuT)} (hi : X.N[i]? = some n) (hln : X.env.kindOf n = some .local) (hc : Names X x c)
      (hsu : ∀ (a : Addr) (oe : Obj) (cls : Value) (d : Option Addr) (pn : List (Addr × Obj)), Zc cls d oe → (∃ vs, oe.data = .fields vs) → PSs (X.suite a ((a, oe) :: pn)) (b₀ :: suite) (ts a cls d))
      (r : HdsA X hds l) : HdsA X (.ExceptHandler (some (.Name x np)) (some n) (b₀ :: suite) pos' :: hds) ((c, some i, ts) :: l)
/-- the ends of a suite behind which the name is gone -/
def endsGone (D : Ends) (i : Nat) : Ends := { nx := fun σ' H' => D.nx (σ'.set i none) H', rt := D.rt, bk := fun σ' H' => D.bk (σ'.set i none) H', ct := fun σ' H' => D.ct (σ'.set i none) H' }
def wManyA (K : PySem.W.Frag) (D : Ends) : List (Value × Option Nat × SuT) → WX
  | [] => fun _ _ _ _ => False
  | (c, none, ts) :: r => fun cls d σ H => ∃ b, PySem.W.exmOne K cls c = some b ∧ (b = true → ∀ a, H a = none → ts a cls d D σ H) ∧ (b = false → wManyA K D r cls d σ H)
  | (c, some i, ts) :: r => fun cls d σ H => ∃ b, PySem.W.exmOne K cls c = some b ∧ (b = true → ∀ a, H a = none → ts a cls d (endsGone D i) (σ.set i (some (.ref a))) H) ∧ (b = false → wManyA K D r cls d σ H)
theorem ps_try_manyA {X : Cx} {body : List Stmt} {h₀ : ExceptHandler} {hds : List ExceptHandler} {l : List (Value × Option Nat × SuT)} {pos : Pos} {tb : WX → TS}
    (hs : X.stack = X.env :: X.outer) (hf : X.env.frame = some X.env.locals) (hN : X.N.Nodup)
    (hb : ∀ (W : WX) (pn : List (Addr × Obj)) (xe : Value → Shared → Prop), Takes (X.tr pn xe) W → PassesOwn (model X.prog X.w) X.A X.env xe → PSs (X.tr pn xe) body (tb W))
    (hh : HdsA X (h₀ :: hds) l) : PS X (.Try body (h₀ :: hds) [] [] pos) fun D σ H => tb (wManyA X.K D l) D σ H := by
  refine ⟨fun pins s σ H D I h => ?_⟩
  have ok := I.ok
  have hfr : X.A.frames = some (X.env :: X.outer) := by rw [ok.frames, hs]
  refine wpAny_Try_except (wpAny_mono ((hb (wManyA X.K D l) (X.pn ++ pins) (fun e s₁ => wpAny (model X.prog X.w) X.A (noteFrame e X.env) (fun _ s₂ => wpAny (model X.prog X.w) X.A (setFlight e none)
    (fun _ s₃ => wpAny (model X.prog X.w) X.A (handleBy e X.env (h₀ :: hds)) (SP X pins D) X.xe s₃) X.xe s₂) X.xe s₁) ?_ PassesOwn.looking).run _ s σ H D (I.toTry _) h) (fun f s1 q => ?_) (fun _ _ e => e))
  · rintro u s' ⟨a, B, sI, pins', σ', H', cls, d, rfl, J', nb, up, sky, na, os, ag, w⟩
    have J := J'.ofTry ok
    have sky' : Sky B (X.env :: X.outer) a (Zc cls d) X.env.locals s'.heap := by
      rw [← hs]
      exact sky
    refine Sky.land Zc.steady hfr hf sky' fun h3 fl3 up3 => ?_
    have J3 := J.landed (s' := { heap := h3, gens := s'.gens, drawn := s'.drawn, toks := s'.toks, os := s'.os }) nb fl3.1 (up.trans up3) os ag
    have landed : ∀ {h : Heap}, HandSPX.FlyingZ B (X.env :: X.outer) a (Zc cls d) h → ∃ oe vs, h.get? a = some oe ∧ Zc cls d oe ∧ oe.data = .fields vs ∧ a ≠ X.env.locals ∧ a ∉ X.fs := by
      intro h fl
      obtain ⟨oe, vs, he, hz, hd⟩ := fl.there
      have nfr : a ∉ (X.env :: X.outer).filterMap (fun x => x.frame) := fun hm => by
        obtain ⟨_, o', e', hnf⟩ := fl.2.2.1.mem hm
        rw [he] at e'
        cases e'
        exact hnf vs hd
      refine ⟨oe, vs, he, hz, hd, fun z => nfr (List.mem_filterMap.mpr ⟨X.env, List.mem_cons_self, by rw [hf, z]⟩), fun hm => ?_⟩
      obtain ⟨e, he', q⟩ := List.mem_filterMap.mp hm
      exact nfr (List.mem_filterMap.mpr ⟨e, List.mem_cons_of_mem _ he', q⟩)
    obtain ⟨oe3, vs3, he3, hz3, hd3, nL, nF⟩ := landed fl3
    have S3 := J3.suite he3 hd3 na nL nF
    have back : ∀ {f : Flow} {s2 : Shared} {oe : Obj} {D2 : Ends}, SP (X.suite a ((a, oe) :: (X.pn ++ pins))) [] D2 f s2 → SP X pins D2 f s2 := by
      intro f s2 oe D2 q
      cases f with
      | next => obtain ⟨σ2, H2, I2, q⟩ := q; exact ⟨σ2, H2, I2.unsuite ok, q⟩
      | brk => obtain ⟨σ2, H2, I2, q⟩ := q; exact ⟨σ2, H2, I2.unsuite ok, q⟩
      | cont => obtain ⟨σ2, H2, I2, q⟩ := q; exact ⟨σ2, H2, I2.unsuite ok, q⟩
      | ret u => obtain ⟨v, σ2, H2, I2, r, q⟩ := q; exact ⟨v, σ2, H2, I2.unsuite ok, r, q⟩
    have LT : PySem.W.Looks (model X.prog X.w) h3 (typeOf (.ref a)) cls := fun A Q E s k q => wpAny_typeOf_ref (k a oe3 he3) (by rw [hz3.1]; exact q)
    -- a name of a class, looked up
    have look : ∀ {x : Str} {c : Value} {np : Pos} {Q : Value → Shared → Prop} {E : Value → Shared → Prop}, Names X x c → Q c { heap := h3, gens := s'.gens, drawn := s'.drawn, toks := s'.toks, os := s'.os } →
        wpAny (model X.prog X.w) (X.A.mark (some (.ref a))) (eval (.Name x np) X.env) Q E { heap := h3, gens := s'.gens, drawn := s'.drawn, toks := s'.toks, os := s'.os } := by
      rintro x c np Q E ⟨hg, hdbg, hm | ⟨hm, hv, hnn⟩⟩ q
      · exact ld_glob S3 hg hm q hdbg
      · exact ld_blt S3 hg hm hv q hnn hdbg
    have go : ∀ {hs2 : List ExceptHandler} {l2 : List (Value × Option Nat × SuT)}, HdsA X hs2 l2 → wManyA X.K D l2 cls d σ' H' →
        wpAny (model X.prog X.w) X.A (handleBy (.ref a) X.env hs2) (SP X pins D) X.xe { heap := h3, gens := s'.gens, drawn := s'.drawn, toks := s'.toks, os := s'.os } := by
      intro hs2 l2 hk
      induction hk with
      | nil => exact fun w => w.elim
      | @plain x c ts b₀ suite np pos' hds l hc hsu r ih =>
        rintro ⟨b, hb1, hyes, hno⟩
        refine wpAny_handleBy_cons (codeAny_handlers_test (look hc (PySem.W.Looks.here (PySem.W.exm_one J3.kIn LT hb1) ?_))) (by intro z; cases z)
        cases b with
        | false => exact ih (hno rfl)
        | true =>
          refine codeAny_handlers_suite ?_
          refine HandSPX.lands_againZ fl3 fun h4 fl4 up4 => ?_
          obtain ⟨oe4, vs4, he4, hz4, hd4, nL4, nF4⟩ := landed fl4
          have J4 := J.landed (s' := { heap := h4, gens := s'.gens, drawn := s'.drawn, toks := s'.toks, os := s'.os }) nb fl4.1 ((up.trans up3).trans up4) os ag
          have S4 := J4.suite he4 hd4 na nL4 nF4
          refine wpAny_mono ((hsu a oe4 cls d (X.pn ++ pins) hz4 ⟨vs4, hd4⟩).run [] _ σ' H' D S4 (hyes rfl a na)) (fun f s2 q => ?_) (fun _ _ z => z.elim)
          exact back q
      | @named x n i c ts b₀ suite np pos' hds l hi hln hc hsu r ih =>
        rintro ⟨b, hb1, hyes, hno⟩
        refine wpAny_handleBy_cons (codeAny_handlers_test (look hc (PySem.W.Looks.here (PySem.W.exm_one J3.kIn LT hb1) ?_))) (by intro z; cases z)
        cases b with
        | false => exact ih (hno rfl)
        | true =>
          refine codeAny_handlers_suite_as ?_
          refine HandSPX.lands_againZ fl3 fun h4 fl4 up4 => ?_
          obtain ⟨oe4, vs4, he4, hz4, hd4, nL4, nF4⟩ := landed fl4
          have J4 := J.landed (s' := { heap := h4, gens := s'.gens, drawn := s'.drawn, toks := s'.toks, os := s'.os }) nb fl4.1 ((up.trans up3).trans up4) os ag
          have S4 := J4.suite he4 hd4 na nL4 nF4
          refine store_ok (X := X.suite a ((a, oe4) :: (X.pn ++ pins))) S4 hN hi (.inl hln) (v := .ref a) rfl (fun s5 I5 => ?_) (.inr hln)
          refine wpAny_mono ((hsu a oe4 cls d (X.pn ++ pins) hz4 ⟨vs4, hd4⟩).run [] _ _ H' (endsGone D i) I5 (hyes rfl a na)) (fun f s2 q => ?_) (fun _ _ z => z.elim)
          have q := back q
          cases f with
          | next =>
            obtain ⟨σ2, H2, I2, q⟩ := q
            exact gone_ok I2 hN hi hln fun s6 I6 => ⟨_, _, I6, q⟩
          | brk =>
            obtain ⟨σ2, H2, I2, q⟩ := q
            exact gone_ok I2 hN hi hln fun s6 I6 => ⟨_, _, I6, q⟩
          | cont =>
            obtain ⟨σ2, H2, I2, q⟩ := q
            exact gone_ok I2 hN hi hln fun s6 I6 => ⟨_, _, I6, q⟩
          | ret u =>
            obtain ⟨v, σ2, H2, I2, r, q⟩ := q
            exact gone_ok I2 hN hi hln fun s6 I6 => ⟨v, _, _, I6, r, q⟩
    exact go hh w
  · cases f with
    | next => obtain ⟨σ2, H2, I2, q⟩ := q; exact wpAny_execs_nil ⟨σ2, H2, I2.ofTry ok, q⟩
    | brk => obtain ⟨σ2, H2, I2, q⟩ := q; exact ⟨σ2, H2, I2.ofTry ok, q⟩
    | cont => obtain ⟨σ2, H2, I2, q⟩ := q; exact ⟨σ2, H2, I2.ofTry ok, q⟩
    | ret u => obtain ⟨v, σ2, H2, I2, r, q⟩ := q; exact ⟨v, σ2, H2, I2.ofTry ok, r, q⟩
end LL
namespace LL
open PySem PySem.Spec PyProof.Rows L2
/-! ### own errors of one field, and defs that raise them -/
/-- an error class of one field, at C; its __init__ at f -/
structure ErC (K : PySem.W.Frag) (mg : Str → Option Value) (x fld : Str) (st : Stmt) where
  C : Addr
  f : Addr
  fd : FuncData
  qual : Str
  g : mg x = some (.ref C)
  oex : OexC K C
  xf : XfC K C
  no : PySem.W.findIn K (.ref C) fld = some none
  iC : PySem.W.findIn K (.ref C) "__init__" = some (some (.ref f))
  tI : PySem.W.typeIn K (.ref f) = some (.type "function")
  F : Fun K "__init__" qual st f fd
  b : Binds K fd ["self", fld] []
  te : PySem.W.exmOne K (.ref C) (.ref C) = some true
/-- what such an __init__ does -/
def spInitE (K : PySem.W.Frag) (fld : Str) : Sp := fun vs H Q _ => ∃ (a C : Addr) (v : V), vs = [.ref a, v] ∧ OexC K C ∧ PySem.W.findIn K (.ref C) fld = some none ∧ H a = some (exo a C none) ∧
  ∀ dx, H dx = none → dx ≠ a → Q .non (upd (upd H dx (exd dx [(fld, v)])) a (exo a C (some dx)))
/-- what is left to show where X(v) is made -/
theorem mkE {K : PySem.W.Frag} {mg : Str → Option Value} {x fld : Str} {st : Stmt} (R : ErC K mg x fld st) {v : V} {H1 : Hp} {Q : XK} (q : ∀ d, H1 d = none → Q (.ref R.C) (some d) (upd H1 d (.xd [(fld, v)]))) :
    [v].length ≤ 1000 ∧ ∀ a, H1 a = none → spInitE K fld (.ref a :: ([v] ++ [])) (upd H1 a (exo a R.C none))
      (fun y H2 => y = .non ∧ ∃ d fs, H2 a = some (exo a R.C (some d)) ∧ H2 d = some (exd d fs) ∧ H1 d = none ∧ Q (.ref R.C) (some d) (upd (del H2 a) d (.xd fs))) (fun _ _ _ => False) := by
  refine ⟨(by decide : 1 ≤ 1000), fun a ha => ?_⟩
  refine ⟨a, R.C, v, rfl, R.oex, R.no, upd_same, fun dx hdx ne => ?_⟩
  refine ⟨rfl, dx, [(fld, v)], upd_same, by rw [upd_ne ne, upd_same], ?_, ?_⟩
  · rw [upd_ne ne] at hdx
    exact hdx
  · have e : upd (del (upd (upd (upd H1 a (exo a R.C none)) dx (exd dx [(fld, v)])) a (exo a R.C (some dx))) a) dx (.xd [(fld, v)]) = upd H1 dx (.xd [(fld, v)]) := by
      funext b
      unfold L2.upd L2.del
      by_cases h : b = dx
      · simp [h]
      · by_cases h2 : b = a
        · subst h2
          simp [h, ha]
        · simp [h, h2]
    rw [e]
    refine q dx ?_
    rw [upd_ne ne] at hdx
    exact hdx
section
variable {X : Cx}
/-- X(e), an error -/
theorem pmkE {P : Program} {w : World} {K : PySem.W.Frag} {mg : Str → Option Value} {base : Heap} {x fld : Str} {st : Stmt} {e : Expr} {ta : TA} {p pos : Pos} {j k : Nat} (R : ErC K mg x fld st) (G : FnOk P w K mg base CX0 j R.f R.fd ["self", fld] (spInitE K fld))
    (e1 : X.prog = P) (e2 : X.w = w) (e3 : X.K = K) (e4 : X.mg = mg) (e5 : X.base = base)
    (hr : Room k X.A) (hjk : j + 1 ≤ k) (hg : Gl X x) (ha : PA X [e] ta) (hd : (x == ("__debug__" : Str)) = false := by decide)
    (hst : starEach [e] X.env = (false, eval e X.env) :: starEach [] X.env := by rfl) : PMk X (.Call (.Name x p) [e] [] pos) (tMkO R.C (spInitE K fld) [] ta) := by
  subst e1 e2 e3 e4 e5
  exact pmk_oex R.oex R.iC R.tI G (hr.mono hjk) R.b .nil pass0 hg R.g ha hd hst (by rfl)
/-- a call of a def that may raise -/
theorem pcallX {x : Str} {st : Stmt} {ps : List Str} {sp : Sp} {j k : Nat} {e : Expr} {es : List Expr} {t : TA} {p pos : Pos} {W : WX}
    (D : Dn X.K X.mg x st ps) (G : FnOk X.prog X.w X.K X.mg X.base (CX X.prog X.w) j D.f D.fd ps sp) (tk : Takes X W) (hr : Room k X.A) (hjk : j ≤ k)
    (hg : Gl X x) (ha : PA X (e :: es) t) (hd : (x == ("__debug__" : Str)) = false := by decide)
    (he : starEach (e :: es) X.env = (false, eval e X.env) :: starEach es X.env := by rfl)
    (hp : (backTo pos (starEach es X.env)).any (·.1) = false := by rfl) :
    PE X (.Call (.Name x p) (e :: es) [] pos) (tCallS sp (WE W) t) :=
  pe_callS G (hr.mono hjk) hg D.m D.F.kp D.b (fun σ => passAt tk σ) ha hd he hp
/-- e.fld in a suite -/
theorem pe_fldE {a : Addr} {oe : Obj} {cls : Value} {d : Option Addr} {pn : List (Addr × Obj)} {x fld : Str} {st : Stmt} {e : Expr} {te : TE} {pos : Pos} (R : ErC X.K X.mg x fld st) (hz : Zc cls d oe) (hf : ∃ vs, oe.data = .fields vs)
    (he : PE (X.suite a ((a, oe) :: pn)) e te) (hb : attributeBase e fld X.env (eval e X.env) = eval e X.env := by rfl) : PE (X.suite a ((a, oe) :: pn)) (.Attribute e fld pos) (tXf a cls d R.C fld te) :=
  pe_xf R.xf R.no hz hf he hb
end
/-- an exception class, by its name alone -/
structure ExN (mg : Str → Option Value) (x : Str) where
  C : Addr
  g : mg x = some (.ref C)
def exn_mk {mg : Str → Option Value} {x : Str} {C : Addr} (g : mg x = some (.ref C)) : ExN mg x := ⟨C, g⟩
end LL
namespace LL
open PySem PySem.Spec PyProof.Rows L2
theorem bex_slot : builtinKind "BaseException.__getattribute__" = some Manifest.AttrKind.slot := PySem.W.kin_classE._proof_2
theorem bex_split : splitId "BaseException.__getattribute__" = some ("BaseException", "__getattribute__") := PySem.W.kin_classE._proof_3
/-! ### isinstance of a caught own error that has fields -/
theorem kin_classX {prog : Program} {w : World} {A : Around} {E : Value → Shared → Prop} {s : Shared} {K : PySem.W.Frag} {x D : Addr} {ox od : Obj} {Q : Option Value → Shared → Prop}
    (hga : PySem.W.findIn K (.ref D) "__getattribute__" = some (some (.builtin "BaseException.__getattribute__"))) (hgt : PySem.W.findIn K (.ref D) "__getattr__" = some none)
    (hsub : PySem.W.subIn K (.ref D) (.type "BaseException") = some true) (hdct : PySem.W.hasDictIn K D = true) (ha : PySem.W.findIn K (.ref D) "__class__" = some (some (.builtin "object.__class__")))
    (hn : PySem.W.specialIn K (.builtin "object.__class__") "__get__" = some (some (.builtin "getset_descriptor.__get__"))) (htk : PySem.W.takesIn K (.builtin "object.__class__") = some true)
    (hm : PySem.W.mroIn K D (.type "object") = some true) (X : K.In s.heap) (I : PySem.W.InstAt s.heap x ox D (some od))
    (h : Q (some (.ref D)) { heap := s.heap, gens := s.gens, drawn := s.drawn, toks := s.toks + 1, os := s.os }) : wpAny (model prog w) A (getAttr? (.ref x) "__class__") Q E s := by
  have hf := PySem.W.findObj_data (od := od) (by obtain ⟨cd, hc, _⟩ := PySem.W.any_some hdct; rw [hc]; rfl) ha hn htk
  obtain ⟨hp, g, d, t, os⟩ := s
  have L0 := PySem.W.InstAt.type (M := model prog w) I
  have L1 := PySem.W.looks_findIn (M := model prog w) X hga
  have L2 := PySem.W.looks_findIn (M := model prog w) X hgt
  have L3 := PySem.W.looks_find (M := model prog w) X I hf
  have sub := PySem.W.Looks.andThen (f := fun t => isSubtype t (.type "BaseException")) L0 (PySem.W.looks_subIn (M := model prog w) X hsub)
  have hx2 : (Value.builtin "BaseException.__getattribute__" == Value.builtin "object.__getattribute__") = false := by decide
  have hx1 : (onTheHeap (.ref D) && (Value.builtin "BaseException.__getattribute__" == Value.builtin "object.__getattribute__")) = false := by rw [hx2]; rfl
  have hb : hookBefore (.ref D) = typeLookup (.ref D) "__getattr__" := if_pos rfl
  have hc : ∀ n, callGetattribute (.ref x) n (.builtin "BaseException.__getattribute__") false = boundAndCalled (.builtin "BaseException.__getattribute__") (.ref x) n := fun n => if_neg (by decide)
  unfold getAttr? getAttrBy?
  refine wpAny_bind (wpAny_mkText (wpAny_bind (wpAny_attempt (wpAny_holding ?_))))
  refine wpAny_bind (L0.at (wpAny_bind (L1.at ?_)))
  show wpAny _ _ (if (onTheHeap (.ref D) && (Value.builtin "BaseException.__getattribute__" == Value.builtin "object.__getattribute__")) = true then _ else _) _ _ _
  rw [hx1, if_neg (by decide)]
  unfold getAttrByItsOwn
  rw [hb]
  refine wpAny_bind (L2.at (wpAny_bind (wpAny_attempt (wpAny_holding ?_))))
  rw [hc]
  unfold boundAndCalled
  rw [F.excAttr_ValueError.ga.bind (.ref x)]
  refine wpAny_bind (wpAny_pure ?_)
  show wpAny _ _ (call (.builtin "BaseException.__getattribute__") [.ref x, .str "__class__" t]) _ _ _
  refine wpAny_call ?_
  refine codeAny_call_builtin F.excAttr_ValueError.ga.plain F.entry_bexc_ga ?_
  have sub' : PySem.W.Looks (model prog w) hp (isInstance (.ref x) (.type "BaseException")) true := sub
  have ar := F.args_bexc_ga (.ref x) (.str "__class__" t)
  refine @PySem.W.check_slot _ _ _ _ _ _ _ _ _ _ _ bex_slot bex_split ?_ ?_ ?_
  · exact sub'
  · exact ar
  have sa : slotArgs "__getattribute__" 1 { pos := [Value.ref x, .str "__class__" t] } = pure (.ref x, [.str "__class__" t]) := rfl
  unfold Builtin.«object.__getattribute__»
  refine wpAny_bind (wpAny_of_eq sa ?_)
  have na : Builtin.ObjectAttr.attrName (.str "__class__" t) = pure "__class__" := rfl
  refine wpAny_bind (wpAny_of_eq na ?_)
  refine wpAny_bind (L0.at ?_)
  refine wpAny_bind (L3.at ?_)
  show wpAny _ _ (Builtin.ObjectAttr.bindTo (.builtin "getset_descriptor.__get__") (.builtin "object.__class__") (.ref x) (.ref D)) _ _ _
  unfold Builtin.ObjectAttr.bindTo
  refine wpAny_bind (wpAny_holding (wpAny_call (PySem.W.class_get X I hm ?_)))
  refine wpAny_pure ?_
  show wpAny _ _ (handedOut (.ref D)) _ _ _
  rw [PySem.W.handedOut_of rfl]
  exact wpAny_pure (wpAny_pure h)
/-- what is known of an object of such a class -/
theorem kitx_excX {K : PySem.W.Frag} {x D : Addr} {ox od : Obj} (C : ExcC K D) : PySem.W.KitX K (.ref x) (.ref D) fun h => PySem.W.InstAt h x ox D (some od) := by
  have b := PySem.W.handS_kitx_exc (x := x) (ox := ox) C.hg C.hk C.hs C.hd C.ha C.hn C.ht C.hm
  refine ⟨fun M h _ I => PySem.W.InstAt.type I, ?_, ?_, fun X I k => kin_classX C.hg C.hk C.hs C.hd C.ha C.hn C.ht C.hm X I k⟩
  · intro M h X I
    obtain ⟨cd, hcD, _⟩ := PySem.W.any_some C.hd
    unfold PySem.W.clsIn at hcD
    split at hcD
    · rename_i heq
      intro A' Q' E' s' k q
      exact wpAny_bind (wpAny_loadPart (k D _ (X D _ heq)) (wpAny_pure q))
    · cases hcD
  · exact b.ne
def rIsX (K : PySem.W.Frag) (D a : Addr) (cls : Value) (d : Option Addr) : List V → Hp → VK → Prop := fun xs H Q =>
  ∃ (c : V) (cv : Value) (b : Bool) (dx : Addr) (fs : List (Str × V)), xs = [.ref a, c] ∧ cls = .ref D ∧ d = some dx ∧ (∀ u, RelV c u → u = cv) ∧ PySem.W.kitOne K (.ref D) cv = some b ∧ H dx = some (.xd fs) ∧ Q (.bl b) H
/-- isinstance(e, X), e being caught -/
theorem call_isEX {X : Cx} {a D : Addr} {cls : Value} {d : Option Addr} {oe : Obj} {pn : List (Addr × Obj)} (C : ExcC X.K D) (hz : Zc cls d oe) (hf : ∃ vs, oe.data = .fields vs) :
    CallR (X.suite a ((a, oe) :: pn)) (.builtin "isinstance") (rIsX X.K D a cls d) := by
  rintro pins s σ H xs us Q I r ⟨c, cv, b, dx, fs, rfl, hcls, hdd, hcv, e, hd, q⟩
  cases r with
  | cons rx rr =>
    cases rr with
    | cons rt rr =>
      cases rr
      obtain rfl := hcv _ rt
      have rx : _ = _ := rx
      have p := I.pin (a, oe) List.mem_cons_self
      have ok := I.hok dx _ hd
      have : ∃ od, s.heap.get? dx = some od := by
        unfold ObjOk at ok
        obtain ⟨mA, ns, _⟩ := ok
        obtain ⟨o, es, ep, q, _⟩ := ns
        exact ⟨o, q⟩
      obtain ⟨od, hod⟩ := this
      obtain ⟨ocls, odict, odata, osl⟩ := oe
      obtain ⟨vs, hv⟩ := hf
      obtain ⟨h1, h2⟩ := hz
      have h1 : ocls = cls := h1
      have h2 : odict = d := h2
      have hv : odata = .fields vs := hv
      subst h1 h2 hv rx hcls hdd
      have J : PySem.W.InstAt s.heap a ⟨.ref D, some dx, .fields vs, osl⟩ D (some od) := ⟨p.1, rfl, rfl, hod⟩
      refine PySem.W.kia_one (kitx_excX C) I.kIn J e (fun z => nomatch z) fun tk => ?_
      exact ⟨.bl b, H, I.kept fun x _ z => z, rfl, q⟩
/-- whether a class stands under another one of the program -/
theorem kit_ref {K : PySem.W.Frag} {C D : Addr} {b : Bool} (hd : PySem.W.hasDictIn K C = true) (ty : PySem.W.typeIn K (.ref C) = some (.type "type")) (ne : (Value.ref D == Value.ref C) = false)
    (sb : PySem.W.subIn K (.ref D) (.ref C) = some b) : PySem.W.kitOne K (.ref D) (.ref C) = some b := by
  obtain ⟨cd, hc, _⟩ := PySem.W.any_some hd
  unfold PySem.W.kitOne PySem.W.kitCls
  rw [ne, if_neg Bool.false_ne_true]
  show (if ((PySem.W.clsIn K C).isSome && PySem.W.typeIn K (.ref C) == some (.type "type")) = true then PySem.W.subIn K (.ref D) (.ref C) else none) = some b
  rw [hc, ty, sb]
  exact if_pos rfl
theorem relV_ref {a : Addr} : ∀ u, RelV (.ref a) u → u = .ref a := fun _ h => h
end LL
namespace LL
/-! ### the tidy row of the numbers that a test lets through -/
def runStep (r : List Pr) (k : Nat) : List Pr :=
  match r.getLast? with
  | some z => if z.2 = k then r.dropLast ++ [(z.1, k + 1)] else r ++ [(k, k + 1)]
  | none => [(k, k + 1)]
def rowS (S : Nat → Bool) : Nat → List Pr
  | 0 => []
  | n + 1 => if S n = true then runStep (rowS S n) n else rowS S n
theorem runStep_nil (k : Nat) : runStep [] k = [(k, k + 1)] := rfl
theorem runStep_grow (q : List Pr) (x k : Nat) : runStep (q ++ [(x, k)]) k = q ++ [(x, k + 1)] := by
  unfold runStep
  rw [List.getLast?_append]
  simp
theorem runStep_app (q : List Pr) (z : Pr) (k : Nat) (h : z.2 ≠ k) : runStep (q ++ [z]) k = q ++ [z] ++ [(k, k + 1)] := by
  unfold runStep
  rw [List.getLast?_append]
  simp [h]
def areaR (r : List Pr) : Nat := (r.map fun z => z.2 - z.1).sum
theorem areaR_app (r q : List Pr) : areaR (r ++ q) = areaR r + areaR q := by simp [areaR]
theorem areaR_one (x y : Nat) : areaR [(x, y)] = y - x := by simp [areaR]
theorem tidy_last {r : List Pr} {z y : Pr} : ∀ {b : Nat}, TidyFrom b (r ++ [z]) → y ∈ r ++ [z] → y.2 ≤ z.2 := by
  induction r with
  | nil =>
    intro b h m
    have m : y ∈ [z] := m
    rw [List.mem_singleton.mp m]
    exact Nat.le_refl _
  | cons x r ih =>
    intro b h m
    obtain ⟨h1, h2, h3, h4⟩ := h
    have h4 : TidyFrom (x.2 + 1) (r ++ [z]) := h4
    rcases List.mem_cons.mp m with rfl | m
    · have hz : has (r ++ [z]) z.1 = true := by
        rw [has_app, has_one]
        have : z.1 < z.2 := (h4.valid z (List.mem_append_right _ (List.mem_singleton.mpr rfl))).1
        simp [this]
      have := (h4.low hz).1
      have : z.1 < z.2 := (h4.valid z (List.mem_append_right _ (List.mem_singleton.mpr rfl))).1
      omega
    · exact ih h4 m
theorem rowS_ok (S : Nat → Bool) : ∀ n, n ≤ 400 → Tidy (rowS S n) ∧ (∀ k, has (rowS S n) k = (decide (k < n) && S k)) ∧ (∀ z ∈ rowS S n, z.2 ≤ n) ∧ areaR (rowS S n) = ((List.range n).filter S).length := by
  intro n
  induction n with
  | zero => exact fun _ => ⟨trivial, fun k => by simp [rowS, has_nil], (fun z hz => nomatch hz), rfl⟩
  | succ n ih =>
    intro l
    obtain ⟨ti, ha, lo, ar⟩ := ih (by omega)
    cases q : S n with
    | false =>
      have e : rowS S (n + 1) = rowS S n := by simp [rowS, q]
      rw [e]
      refine ⟨ti, fun k => ?_, fun z hz => Nat.le_succ_of_le (lo z hz), ?_⟩
      · rw [ha]
        by_cases h : k = n
        · subst h
          simp [q]
        · rw [decide_eq_decide.mpr (show k < n ↔ k < n + 1 by omega)]
      · rw [ar, List.range_succ, List.filter_append]
        simp [q]
    | true =>
      have e : rowS S (n + 1) = runStep (rowS S n) n := by simp [rowS, q]
      rw [e]
      have fl : ((List.range (n + 1)).filter S).length = ((List.range n).filter S).length + 1 := by
        rw [List.range_succ, List.filter_append]
        simp [q]
      by_cases ne : rowS S n = []
      · rw [ne] at ha ar ⊢
        rw [runStep_nil]
        refine ⟨⟨Nat.zero_le _, Nat.lt_succ_self _, l, trivial⟩, fun k => ?_, fun z hz => ?_, ?_⟩
        · rw [has_one]
          have := ha k
          rw [has_nil] at this
          by_cases h : k = n
          · subst h
            simp [q]
          · by_cases h2 : k < n
            · have this : S k = false := by simpa [h2] using this.symm
              rw [this, Bool.and_false, decide_eq_false (show ¬ n ≤ k by omega), Bool.false_and]
            · rw [decide_eq_false (show ¬ k < n + 1 by omega), Bool.false_and, Bool.and_false]
        · rw [List.mem_singleton.mp hz]
          exact Nat.le_refl _
        · rw [areaR_one, fl, ← ar]
          simp [areaR]
      · obtain ⟨r, z, er⟩ := snoc_of ne
        rw [er] at ti ha lo ar ⊢
        by_cases h : z.2 = n
        · obtain ⟨x, y⟩ := z
          have h : y = n := h
          subst h
          rw [runStep_grow]
          have xy : x < y := (TidyFrom.valid (b := 0) ti (x, y) (List.mem_append_right _ (List.mem_singleton.mpr rfl))).1
          refine ⟨TidyFrom.grow ti l, fun k => ?_, fun w hw => ?_, ?_⟩
          · have := ha k
            rw [has_app, has_one] at this ⊢
            by_cases h : k = y
            · subst h
              simp [q, Nat.le_of_lt xy]
            · rw [decide_eq_decide.mpr (show k < y + 1 ↔ k < y by omega), this]
          · rcases List.mem_append.mp hw with hw | hw
            · have := lo w (List.mem_append_left _ hw)
              omega
            · rw [List.mem_singleton.mp hw]
              exact Nat.le_refl _
          · rw [fl, ← ar, areaR_app, areaR_app, areaR_one, areaR_one]
            omega
        · rw [runStep_app _ _ _ h]
          have zl := lo z (List.mem_append_right _ (List.mem_singleton.mpr rfl))
          refine ⟨Tidy.app ti (fun w hw => ?_) (Nat.lt_succ_self _) l, fun k => ?_, fun w hw => ?_, ?_⟩
          · have := tidy_last ti hw
            omega
          · rw [has_app, ha, has_one]
            by_cases h : k = n
            · subst h
              simp [q]
            · rw [decide_eq_decide.mpr (show k < n + 1 ↔ k < n by omega)]
              by_cases h2 : k < n
              · rw [decide_eq_false (show ¬ n ≤ k by omega), Bool.false_and, Bool.or_false]
              · rw [decide_eq_false h2, Bool.false_and, Bool.and_false]
                rfl
          · rcases List.mem_append.mp hw with hw | hw
            · exact Nat.le_succ_of_le (lo w hw)
            · rw [List.mem_singleton.mp hw]
              exact Nat.le_refl _
          · rw [fl, ← ar, areaR_app, areaR_one]
            omega
/-- the row by its numbers, one behind the other -/
theorem rowS_fold (S : Nat → Bool) (n : Nat) : ((List.range n).filter S).foldl runStep [] = rowS S n := by
  induction n with
  | zero => rfl
  | succ n ih =>
    rw [List.range_succ, List.filter_append, List.foldl_append, ih]
    cases q : S n <;> simp [q, rowS]
theorem rowS_congr {S R : Nat → Bool} {n : Nat} (h : ∀ k, k < n → S k = R k) : rowS S n = rowS R n := by
  induction n with
  | zero => rfl
  | succ n ih =>
    have := ih fun k l => h k (by omega)
    simp only [rowS, this, h n (Nat.lt_succ_self _)]
theorem rowS_none {S : Nat → Bool} {n : Nat} (h : ∀ k, k < n → S k = false) : rowS S n = [] := by
  rw [rowS_congr (R := fun _ => false) h]
  induction n with
  | zero => rfl
  | succ n ih =>
    simp only [rowS]
    exact ih fun k l => h k (by omega)
/-! ### strips: longest runs of days of one row -/
abbrev Strip := Nat × Nat × List Pr
def stripStep (ss : List Strip) (d : Nat) (row : List Pr) : List Strip :=
  match ss.getLast? with
  | some s => if s.2.2 = row then ss.dropLast ++ [(s.1, d + 1, row)] else ss ++ [(d, d + 1, row)]
  | none => [(d, d + 1, row)]
def stripsS (R : Nat → List Pr) : Nat → List Strip
  | 0 => []
  | d + 1 => stripStep (stripsS R d) d (R d)
/-- strips that follow one another from a day to another one -/
def Chn (R : Nat → List Pr) : Nat → List Strip → Nat → Prop
  | b, [], e => b = e
  | b, s :: ss, e => b = s.1 ∧ s.1 < s.2.1 ∧ (∀ d, s.1 ≤ d → d < s.2.1 → R d = s.2.2) ∧ (∀ t, ss.head? = some t → t.2.2 ≠ s.2.2) ∧ Chn R s.2.1 ss e
theorem Chn.le {R : Nat → List Pr} : ∀ {ss : List Strip} {b e : Nat}, Chn R b ss e → b ≤ e
  | [], _, _, h => Nat.le_of_eq h
  | s :: ss, b, e, ⟨h1, h2, _, _, h5⟩ => by
    have := h5.le
    omega
theorem stripStep_nil (d : Nat) (row : List Pr) : stripStep [] d row = [(d, d + 1, row)] := rfl
theorem stripStep_grow (q : List Strip) (x y d : Nat) (row : List Pr) : stripStep (q ++ [(x, y, row)]) d row = q ++ [(x, d + 1, row)] := by
  unfold stripStep
  rw [List.getLast?_append]
  simp
theorem stripStep_app (q : List Strip) (s : Strip) (d : Nat) (row : List Pr) (h : s.2.2 ≠ row) : stripStep (q ++ [s]) d row = q ++ [s] ++ [(d, d + 1, row)] := by
  unfold stripStep
  rw [List.getLast?_append]
  simp [h]
theorem Chn.grow {R : Nat → List Pr} : ∀ {ss : List Strip} {b x e : Nat} {row : List Pr}, Chn R b (ss ++ [(x, e, row)]) e → R e = row → Chn R b (ss ++ [(x, e + 1, row)]) (e + 1)
  | [], b, x, e, row, ⟨h1, h2, h3, h4, _⟩, q => by
    refine ⟨h1, Nat.lt_succ_of_lt h2, fun d l u => ?_, h4, rfl⟩
    by_cases z : d = e
    · rw [z]; exact q
    · exact h3 d l (by have u : d < e + 1 := u; show d < e; omega)
  | s :: ss, b, x, e, row, ⟨h1, h2, h3, h4, h5⟩, q => by
    refine ⟨h1, h2, h3, fun t ht => ?_, Chn.grow h5 q⟩
    cases ss with
    | nil =>
      obtain rfl : (x, e + 1, row) = t := Option.some.inj ht
      exact h4 (x, e, row) rfl
    | cons y ss => exact h4 t ht
theorem Chn.snoc {R : Nat → List Pr} : ∀ {ss : List Strip} {b e : Nat} {s : Strip} {row : List Pr}, Chn R b (ss ++ [s]) e → s.2.2 ≠ row → R e = row → Chn R b (ss ++ [s] ++ [(e, e + 1, row)]) (e + 1)
  | [], b, e, s, row, ⟨h1, h2, h3, h4, h5⟩, n, q => by
    have h5 : s.2.1 = e := h5
    refine ⟨h1, h2, h3, fun t ht => ?_, h5, Nat.lt_succ_self _, fun d l u => ?_, (fun t ht => nomatch ht), rfl⟩
    · obtain rfl : (e, e + 1, row) = t := Option.some.inj ht
      exact fun z => n z.symm
    · have : d = e := by have l : e ≤ d := l; have u : d < e + 1 := u; omega
      rw [this]
      exact q
  | y :: ss, b, e, s, row, ⟨h1, h2, h3, h4, h5⟩, n, q => by
    refine ⟨h1, h2, h3, fun t ht => ?_, Chn.snoc h5 n q⟩
    cases ss with
    | nil => exact h4 t ht
    | cons x ss => exact h4 t ht
theorem strips_ok (R : Nat → List Pr) : ∀ D, Chn R 0 (stripsS R D) D
  | 0 => rfl
  | D + 1 => by
    have ih := strips_ok R D
    show Chn R 0 (stripStep (stripsS R D) D (R D)) (D + 1)
    by_cases ne : stripsS R D = []
    · rw [ne] at ih ⊢
      have ih : 0 = D := ih
      subst ih
      exact ⟨rfl, Nat.lt_succ_self _, fun d l u => by have : d = 0 := by have u : d < 1 := u; omega
                                                      rw [this], (fun t ht => nomatch ht), rfl⟩
    · have e := (List.dropLast_concat_getLast ne).symm
      generalize (stripsS R D).dropLast = q at e
      generalize (stripsS R D).getLast ne = s at e
      rw [e] at ih ⊢
      have last : s.2.1 = D := by
        clear e ne
        revert ih
        generalize (0 : Nat) = b
        revert b
        induction q with
        | nil => exact fun b h => h.2.2.2.2
        | cons x q ih2 => exact fun b h => ih2 _ h.2.2.2.2
      obtain ⟨x, y, row⟩ := s
      have last : y = D := last
      subst last
      by_cases h : row = R y
      · subst h
        rw [stripStep_grow]
        exact Chn.grow ih rfl
      · rw [stripStep_app _ _ _ _ h]
        exact Chn.snoc ih h rfl

/-! ### boxes of points -/
abbrev BoxT (κ : Type) := κ × Nat × Nat × Nat × Nat
section
variable {κ : Type} [DecidableEq κ]
def boxesK (k : κ) (ss : List Strip) : List (BoxT κ) := ss.flatMap fun s => s.2.2.map fun z => (k, s.1, s.2.1, z.1, z.2)
/-- the tidy boxes of the points of keys that a test lets through -/
def tidyB (P : κ → Nat → Nat → Bool) (D T : Nat) (keys : List κ) : List (BoxT κ) := keys.flatMap fun k => boxesK k (stripsS (fun d => rowS (P k d) T) D)
/-- a box has a key and a day -/
def onDay (b : BoxT κ) (k : κ) (d : Int) : Bool := decide (b.1 = k) && (decide ((b.2.1 : Int) ≤ d) && decide (d < (b.2.2.1 : Int)))
def inBx (b : BoxT κ) (k : κ) (d t : Int) : Bool := onDay b k d && (decide ((b.2.2.2.1 : Int) ≤ t) && decide (t < (b.2.2.2.2 : Int)))
/-- the turns of a key and a day, in the order of the boxes -/
def turnsL (bs : List (BoxT κ)) (k : κ) (d : Int) : List Pr := (bs.filter fun b => onDay b k d).map fun b => (b.2.2.2.1, b.2.2.2.2)
theorem turnsL_app (as bs : List (BoxT κ)) (k : κ) (d : Int) : turnsL (as ++ bs) k d = turnsL as k d ++ turnsL bs k d := by simp [turnsL]
theorem turnsL_strip (k k2 : κ) (s : Strip) (d : Int) : turnsL (s.2.2.map fun z => (k, s.1, s.2.1, z.1, z.2)) k2 d =
    if k = k2 ∧ (s.1 : Int) ≤ d ∧ d < (s.2.1 : Int) then s.2.2 else [] := by
  obtain ⟨x, y, row⟩ := s
  show turnsL (row.map fun z => (k, x, y, z.1, z.2)) k2 d = if k = k2 ∧ (x : Int) ≤ d ∧ d < (y : Int) then row else []
  induction row with
  | nil => simp [turnsL]
  | cons z row ih =>
    rw [List.map_cons, ← List.singleton_append, turnsL_app, ih]
    by_cases h : k = k2 ∧ (x : Int) ≤ d ∧ d < (y : Int)
    · rw [if_pos h, if_pos h]
      simp [turnsL, onDay, h]
    · rw [if_neg h, if_neg h]
      have : onDay (k, x, y, z.1, z.2) k2 d = false := by
        cases q : onDay (k, x, y, z.1, z.2) k2 d with
        | false => rfl
        | true =>
          have q1 := Bool.and_eq_true_iff.mp q
          have q2 := Bool.and_eq_true_iff.mp q1.2
          exact absurd ⟨of_decide_eq_true q1.1, of_decide_eq_true q2.1, of_decide_eq_true q2.2⟩ h
      simp [turnsL, this]
theorem turnsL_out (k : κ) (R : Nat → List Pr) : ∀ (ss : List Strip) (b e : Nat) (d : Int), Chn R b ss e → (d < b ∨ (e : Int) ≤ d) → turnsL (boxesK k ss) k d = []
  | [], _, _, _, _, _ => rfl
  | s :: ss, b, e, d, ⟨h1, h2, h3, h4, h5⟩, o => by
    have e1 : boxesK k (s :: ss) = (s.2.2.map fun z => (k, s.1, s.2.1, z.1, z.2)) ++ boxesK k ss := rfl
    have l := h5.le
    rw [e1, turnsL_app, turnsL_strip, turnsL_out k R ss _ _ d h5 (by omega), if_neg (by omega)]
    rfl
theorem turnsL_in (k : κ) (R : Nat → List Pr) : ∀ (ss : List Strip) (b e d : Nat), Chn R b ss e → b ≤ d → d < e → turnsL (boxesK k ss) k (d : Int) = R d
  | [], b, e, d, h, l, u => by
    have h : b = e := h
    omega
  | s :: ss, b, e, d, ⟨h1, h2, h3, h4, h5⟩, l, u => by
    have e1 : boxesK k (s :: ss) = (s.2.2.map fun z => (k, s.1, s.2.1, z.1, z.2)) ++ boxesK k ss := rfl
    rw [e1, turnsL_app, turnsL_strip]
    by_cases h : d < s.2.1
    · rw [if_pos ⟨rfl, by omega, by omega⟩, turnsL_out k R ss _ _ _ h5 (by omega), List.append_nil, h3 d (by omega) h]
    · rw [if_neg (by omega), turnsL_in k R ss _ _ d h5 (by omega) u]
      rfl
theorem turnsL_key (k k2 : κ) (n : k ≠ k2) : ∀ (ss : List Strip) (d : Int), turnsL (boxesK k ss) k2 d = []
  | [], _ => rfl
  | s :: ss, d => by
    have e1 : boxesK k (s :: ss) = (s.2.2.map fun z => (k, s.1, s.2.1, z.1, z.2)) ++ boxesK k ss := rfl
    rw [e1, turnsL_app, turnsL_strip, if_neg (fun z => n z.1), turnsL_key k k2 n ss]
    rfl
theorem tidyB_strange (P : κ → Nat → Nat → Bool) (D T : Nat) : ∀ (keys : List κ) (k : κ) (d : Int), k ∉ keys → turnsL (tidyB P D T keys) k d = []
  | [], _, _, _ => rfl
  | y :: ks, k, d, h => by
    have e1 : tidyB P D T (y :: ks) = boxesK y (stripsS (fun d => rowS (P y d) T) D) ++ tidyB P D T ks := rfl
    rw [e1, turnsL_app, turnsL_key _ _ (fun z => h (by rw [z]; exact List.mem_cons_self)), tidyB_strange P D T ks k d (fun z => h (List.mem_cons_of_mem _ z))]
    rfl
theorem tidyB_turns (P : κ → Nat → Nat → Bool) (D T : Nat) : ∀ (keys : List κ) (k : κ) (d : Nat), keys.Nodup → k ∈ keys → d < D → turnsL (tidyB P D T keys) k (d : Int) = rowS (P k d) T
  | [], _, _, _, m, _ => nomatch m
  | y :: ks, k, d, nd, m, l => by
    have e1 : tidyB P D T (y :: ks) = boxesK y (stripsS (fun d => rowS (P y d) T) D) ++ tidyB P D T ks := rfl
    obtain ⟨n1, n2⟩ := List.nodup_cons.mp nd
    rw [e1, turnsL_app]
    by_cases h : y = k
    · subst h
      rw [turnsL_in y _ _ _ _ d (strips_ok _ D) (Nat.zero_le _) l, tidyB_strange P D T ks y _ n1, List.append_nil]
    · rw [turnsL_key _ _ h, List.nil_append]
      rcases List.mem_cons.mp m with z | m
      · exact absurd z.symm h
      · exact tidyB_turns P D T ks k d n2 m l
theorem tidyB_beyond (P : κ → Nat → Nat → Bool) (D T : Nat) : ∀ (keys : List κ) (k : κ) (d : Int), (d < 0 ∨ (D : Int) ≤ d) → turnsL (tidyB P D T keys) k d = []
  | [], _, _, _ => rfl
  | y :: ks, k, d, o => by
    have e1 : tidyB P D T (y :: ks) = boxesK y (stripsS (fun d => rowS (P y d) T) D) ++ tidyB P D T ks := rfl
    rw [e1, turnsL_app, tidyB_beyond P D T ks k d o]
    by_cases h : y = k
    · subst h
      rw [turnsL_out y _ _ _ _ d (strips_ok _ D) (by omega)]
      rfl
    · rw [turnsL_key _ _ h]
      rfl
/-- a box that has a point tells a turn of the key and the day -/
theorem anyBx_turns (bs : List (BoxT κ)) (k : κ) (d t : Int) : (bs.any fun b => inBx b k d t) = (turnsL bs k d).any fun z => decide ((z.1 : Int) ≤ t) && decide (t < (z.2 : Int)) := by
  induction bs with
  | nil => rfl
  | cons b bs ih =>
    rw [← List.singleton_append, turnsL_app, List.any_append, List.any_append, ih]
    congr 1
    cases q : onDay b k d <;> simp [turnsL, inBx, q]
theorem hasI (r : List Pr) (t : Int) : (r.any fun z => decide ((z.1 : Int) ≤ t) && decide (t < (z.2 : Int))) = (decide (0 ≤ t) && has r t.toNat) := by
  by_cases h : 0 ≤ t
  · obtain ⟨n, rfl⟩ := Int.eq_ofNat_of_zero_le h
    rw [decide_eq_true h, Bool.true_and]
    unfold has
    congr 1
    funext z
    rw [Int.toNat_natCast]
    congr 1
    · exact decide_eq_decide.mpr Int.ofNat_le
    · exact decide_eq_decide.mpr Int.ofNat_lt
  · rw [decide_eq_false h, Bool.false_and, List.any_eq_false]
    intro z _ q
    have q := of_decide_eq_true (Bool.and_eq_true_iff.mp q).1
    omega
/-- which points the boxes have -/
theorem tidyB_has (P : κ → Nat → Nat → Bool) {D T : Nat} (hT : T ≤ 400) {keys : List κ} (nd : keys.Nodup) (k : κ) (d t : Int) :
    ((tidyB P D T keys).any fun b => inBx b k d t) = (decide (k ∈ keys) && (decide (0 ≤ d ∧ d < (D : Int)) && (decide (0 ≤ t ∧ t < (T : Int)) && P k d.toNat t.toNat))) := by
  rw [anyBx_turns, hasI]
  by_cases m : k ∈ keys
  · rw [decide_eq_true m, Bool.true_and]
    by_cases l : 0 ≤ d ∧ d < (D : Int)
    · rw [decide_eq_true l, Bool.true_and]
      obtain ⟨n, rfl⟩ := Int.eq_ofNat_of_zero_le l.1
      rw [tidyB_turns P D T keys k n nd m (by have := l.2; omega), (rowS_ok _ T hT).2.1, Int.toNat_natCast, ← Bool.and_assoc]
      congr 1
      rw [Bool.eq_iff_iff]
      simp only [Bool.and_eq_true, decide_eq_true_eq]
      omega
    · rw [tidyB_beyond P D T keys k d (by omega), decide_eq_false l, has_nil, Bool.and_false, Bool.false_and]
  · rw [tidyB_strange P D T keys k d m, has_nil, decide_eq_false m, Bool.and_false, Bool.false_and]
/-! ### how many points -/
def areaB (bs : List (BoxT κ)) : Nat := (bs.map fun b => (b.2.2.1 - b.2.1) * (b.2.2.2.2 - b.2.2.2.1)).sum
theorem areaB_app (as bs : List (BoxT κ)) : areaB (as ++ bs) = areaB as + areaB bs := by simp [areaB]
theorem areaB_strip (k : κ) (s : Strip) : areaB (s.2.2.map fun z => (k, s.1, s.2.1, z.1, z.2)) = (s.2.1 - s.1) * areaR s.2.2 := by
  obtain ⟨x, y, row⟩ := s
  show areaB (row.map fun z => (k, x, y, z.1, z.2)) = (y - x) * areaR row
  induction row with
  | nil => rfl
  | cons z row ih =>
    rw [List.map_cons, ← List.singleton_append, areaB_app, ih]
    simp [areaB, areaR, Nat.mul_add]
/-- the sum over the days from b on, n of them -/
def sumFrom (f : Nat → Nat) (b : Nat) : Nat → Nat
  | 0 => 0
  | n + 1 => f b + sumFrom f (b + 1) n
theorem sumFrom_app (f : Nat → Nat) : ∀ (n b m : Nat), sumFrom f b (n + m) = sumFrom f b n + sumFrom f (b + n) m
  | 0, b, m => by simp [sumFrom]
  | n + 1, b, m => by
    rw [Nat.succ_add]
    show f b + sumFrom f (b + 1) (n + m) = f b + sumFrom f (b + 1) n + sumFrom f (b + (n + 1)) m
    rw [sumFrom_app f n (b + 1) m, show b + 1 + n = b + (n + 1) by omega]
    omega
theorem sumFrom_const (f : Nat → Nat) (c : Nat) : ∀ (n b : Nat), (∀ d, b ≤ d → d < b + n → f d = c) → sumFrom f b n = n * c
  | 0, b, _ => by simp [sumFrom]
  | n + 1, b, h => by
    show f b + sumFrom f (b + 1) n = (n + 1) * c
    rw [h b (Nat.le_refl _) (by omega), sumFrom_const f c n (b + 1) (fun d l u => h d (by omega) (by omega)), Nat.succ_mul]
    omega
theorem areaB_chain (k : κ) (R : Nat → List Pr) : ∀ (ss : List Strip) (b e : Nat), Chn R b ss e → areaB (boxesK k ss) = sumFrom (fun d => areaR (R d)) b (e - b)
  | [], b, e, h => by
    have h : b = e := h
    subst h
    rw [Nat.sub_self]
    rfl
  | s :: ss, b, e, ⟨h1, h2, h3, h4, h5⟩ => by
    have e1 : boxesK k (s :: ss) = (s.2.2.map fun z => (k, s.1, s.2.1, z.1, z.2)) ++ boxesK k ss := rfl
    have l := h5.le
    rw [e1, areaB_app, areaB_strip, areaB_chain k R ss _ _ h5, show e - b = (s.2.1 - s.1) + (e - s.2.1) by omega, sumFrom_app, show b + (s.2.1 - s.1) = s.2.1 by omega]
    congr 1
    refine (sumFrom_const _ (areaR s.2.2) _ _ (fun d l u => ?_)).symm
    show areaR (R d) = _
    rw [h3 d (by omega) (by omega)]
/-- the points of keys, one by one -/
def ptsOf (P : κ → Nat → Nat → Bool) (D T : Nat) (keys : List κ) : List (κ × Nat × Nat) :=
  keys.flatMap fun k => (List.range' 0 D).flatMap fun d => ((List.range T).filter (P k d)).map fun t => (k, d, t)
theorem len_days (P : κ → Nat → Nat → Bool) (T : Nat) (hT : T ≤ 400) (k : κ) : ∀ (n b : Nat), ((List.range' b n).flatMap fun d => ((List.range T).filter (P k d)).map fun t => (k, d, t)).length = sumFrom (fun d => areaR (rowS (P k d) T)) b n
  | 0, b => rfl
  | n + 1, b => by
    rw [List.range'_succ, List.flatMap_cons, List.length_append, len_days P T hT k n (b + 1), List.length_map, ← (rowS_ok (P k b) T hT).2.2.2]
    rfl
theorem areaB_pts (P : κ → Nat → Nat → Bool) {D T : Nat} (hT : T ≤ 400) : ∀ keys : List κ, areaB (tidyB P D T keys) = (ptsOf P D T keys).length
  | [] => rfl
  | k :: ks => by
    have e1 : tidyB P D T (k :: ks) = boxesK k (stripsS (fun d => rowS (P k d) T) D) ++ tidyB P D T ks := rfl
    have e2 : ptsOf P D T (k :: ks) = ((List.range' 0 D).flatMap fun d => ((List.range T).filter (P k d)).map fun t => (k, d, t)) ++ ptsOf P D T ks := rfl
    rw [e1, e2, areaB_app, List.length_append, areaB_pts P hT ks, len_days P T hT, areaB_chain k _ _ _ _ (strips_ok _ D), Nat.sub_zero]
theorem mem_pts (P : κ → Nat → Nat → Bool) (D T : Nat) (keys : List κ) (k : κ) (d t : Nat) : (k, d, t) ∈ ptsOf P D T keys ↔ k ∈ keys ∧ d < D ∧ t < T ∧ P k d t = true := by
  simp only [ptsOf, List.mem_flatMap, List.mem_map, List.mem_filter, List.mem_range, List.mem_range'_1, Prod.mk.injEq]
  constructor
  · rintro ⟨k', hk, d', hd, t', ⟨ht, p⟩, rfl, rfl, rfl⟩
    exact ⟨hk, by omega, ht, p⟩
  · rintro ⟨hk, hd, ht, p⟩
    exact ⟨k, hk, d, by omega, t, ⟨ht, p⟩, rfl, rfl, rfl⟩
theorem nodup_days (P : κ → Nat → Nat → Bool) (T : Nat) (k : κ) : ∀ (n b : Nat), ((List.range' b n).flatMap fun d => ((List.range T).filter (P k d)).map fun t => (k, d, t)).Nodup
  | 0, b => List.nodup_nil
  | n + 1, b => by
    rw [List.range'_succ, List.flatMap_cons, List.nodup_append]
    refine ⟨?_, nodup_days P T k n (b + 1), ?_⟩
    · have : ((List.range T).filter (P k b)).Nodup := List.Pairwise.filter _ List.nodup_range
      refine List.Pairwise.map _ (fun x y h => ?_) this
      intro z
      exact h (Prod.mk.inj (Prod.mk.inj z).2).2
    · intro x hx y hy z
      subst z
      obtain ⟨t, _, rfl⟩ := List.mem_map.mp hx
      obtain ⟨d', hd, hy⟩ := List.mem_flatMap.mp hy
      obtain ⟨t', _, e⟩ := List.mem_map.mp hy
      have e1 : d' = b := (Prod.mk.inj (Prod.mk.inj e).2).1
      have := (List.mem_range'_1.mp hd).1
      omega
theorem nodup_pts (P : κ → Nat → Nat → Bool) (D T : Nat) : ∀ keys : List κ, keys.Nodup → (ptsOf P D T keys).Nodup
  | [], _ => List.nodup_nil
  | k :: ks, nd => by
    have e2 : ptsOf P D T (k :: ks) = ((List.range' 0 D).flatMap fun d => ((List.range T).filter (P k d)).map fun t => (k, d, t)) ++ ptsOf P D T ks := rfl
    obtain ⟨n1, n2⟩ := List.nodup_cons.mp nd
    rw [e2, List.nodup_append]
    refine ⟨nodup_days P T k D 0, nodup_pts P D T ks n2, fun x hx y hy z => ?_⟩
    subst z
    obtain ⟨d, _, hx⟩ := List.mem_flatMap.mp hx
    obtain ⟨t, _, rfl⟩ := List.mem_map.mp hx
    exact n1 ((mem_pts P D T ks k d t).mp hy).1
omit [DecidableEq κ] in
theorem len_le {α : Type} [BEq α] [LawfulBEq α] : ∀ {l m : List α}, l.Nodup → (∀ x ∈ l, x ∈ m) → l.length ≤ m.length
  | [], _, _, _ => Nat.zero_le _
  | x :: l, m, nd, h => by
    obtain ⟨n1, n2⟩ := List.nodup_cons.mp nd
    have hx := h x List.mem_cons_self
    have := len_le (m := m.erase x) n2 fun y hy => (List.mem_erase_of_ne (fun z => n1 (by rw [← z]; exact hy))).mpr (h y (List.mem_cons_of_mem _ hy))
    rw [List.length_erase_of_mem hx] at this
    have : 0 < m.length := List.length_pos_of_mem hx
    rw [List.length_cons]
    omega
omit [DecidableEq κ] in
theorem len_eq {α : Type} [BEq α] [LawfulBEq α] {l m : List α} (n1 : l.Nodup) (n2 : m.Nodup) (h : ∀ x, x ∈ l ↔ x ∈ m) : l.length = m.length :=
  Nat.le_antisymm (len_le n1 fun x hx => (h x).mp hx) (len_le n2 fun x hx => (h x).mpr hx)
end
/-! ### how long, and what boxes are there -/
theorem strips_len (R : Nat → List Pr) : ∀ n, (stripsS R n).length ≤ n
  | 0 => Nat.le_refl _
  | n + 1 => by
    have ih := strips_len R n
    show (stripStep (stripsS R n) n (R n)).length ≤ n + 1
    unfold stripStep
    split
    · split
      · rw [List.length_append, List.length_dropLast]
        simp
        omega
      · rw [List.length_append]
        exact Nat.succ_le_succ ih
    · simp
theorem Chn.mem {R : Nat → List Pr} : ∀ {ss : List Strip} {b e : Nat}, Chn R b ss e → ∀ z ∈ ss, b ≤ z.1 ∧ z.1 < z.2.1 ∧ z.2.1 ≤ e ∧ R z.1 = z.2.2
  | [], _, _, _, _, hz => nomatch hz
  | y :: ss, b, e, ⟨c1, c2, c3, c4, c5⟩, z, hz => by
    rcases List.mem_cons.mp hz with rfl | hz
    · exact ⟨Nat.le_of_eq c1, c2, c5.le, c3 _ (Nat.le_refl _) c2⟩
    · have := Chn.mem c5 z hz
      exact ⟨by omega, this.2.1, this.2.2.1, this.2.2.2⟩
theorem boxesK_len {κ : Type} (k : κ) (c : Nat) : ∀ ss : List Strip, (∀ z ∈ ss, z.2.2.length ≤ c) → (boxesK k ss).length ≤ ss.length * c
  | [], _ => Nat.zero_le _
  | z :: ss, h => by
    have e : boxesK k (z :: ss) = (z.2.2.map fun y => (k, z.1, z.2.1, y.1, y.2)) ++ boxesK k ss := rfl
    have h1 := boxesK_len k c ss fun y hy => h y (List.mem_cons_of_mem _ hy)
    have h2 := h z List.mem_cons_self
    rw [e, List.length_append, List.length_map, List.length_cons, Nat.succ_mul]
    omega
theorem strips_rows {S : Nat → Nat → Bool} {D T : Nat} (hT : T ≤ 400) : ∀ z ∈ stripsS (fun d => rowS (S d) T) D, z.2.2.length ≤ 201 := fun z hz => by
  have h := (Chn.mem (strips_ok _ D) z hz).2.2.2
  rw [← h]
  exact Tidy.len (rowS_ok _ T hT).1
theorem tidyB_len {κ : Type} (P : κ → Nat → Nat → Bool) {D T : Nat} (hT : T ≤ 400) : ∀ keys : List κ, (tidyB P D T keys).length ≤ keys.length * (D * 201)
  | [] => Nat.zero_le _
  | k :: ks => by
    have e : tidyB P D T (k :: ks) = boxesK k (stripsS (fun d => rowS (P k d) T) D) ++ tidyB P D T ks := rfl
    have h1 := tidyB_len P hT ks (D := D)
    have h2 := boxesK_len k 201 _ (strips_rows (S := P k) (D := D) hT)
    have h3 := Nat.mul_le_mul_right 201 (strips_len (fun d => rowS (P k d) T) D)
    rw [e, List.length_append, List.length_cons, Nat.succ_mul]
    omega
theorem tidyB_mem {κ : Type} (P : κ → Nat → Nat → Bool) {D T : Nat} (hT : T ≤ 400) {keys : List κ} : ∀ b ∈ tidyB P D T keys, b.1 ∈ keys ∧ b.2.1 < b.2.2.1 ∧ b.2.2.1 ≤ D ∧ b.2.2.2.1 < b.2.2.2.2 ∧ b.2.2.2.2 ≤ T := fun b hb => by
  obtain ⟨k, hk, hb⟩ := List.mem_flatMap.mp hb
  obtain ⟨s, hs, hb⟩ := List.mem_flatMap.mp hb
  obtain ⟨z, hz, rfl⟩ := List.mem_map.mp hb
  obtain ⟨h1, h2, h3, h4⟩ := Chn.mem (strips_ok _ D) s hs
  have h5 := rowS_ok (P k s.1) T hT
  rw [show rowS (P k s.1) T = s.2.2 from h4] at h5
  exact ⟨hk, h2, h3, (TidyFrom.valid (b := 0) h5.1 z hz).1, h5.2.2.1 z hz⟩
end LL
namespace LL
open PySem PySem.Spec PyProof.Rows L2
/-! ### lists of boxes, in the heap -/
abbrev SBx := BoxT Str
def bxV (b : SBx) : List V := [.str b.1, .int (b.2.1 : Int), .int (b.2.2.1 : Int), .int (b.2.2.2.1 : Int), .int (b.2.2.2.2 : Int)]
inductive BxsAt (H : Hp) : List Addr → List SBx → Prop
  | nil : BxsAt H [] []
  | cons {q : Addr} {b : SBx} {qs : List Addr} {bs : List SBx} (h : H q = some (.tup (bxV b))) (t : BxsAt H qs bs) : BxsAt H (q :: qs) (b :: bs)
theorem BxsAt.len {H : Hp} {qs : List Addr} {bs : List SBx} (h : BxsAt H qs bs) : qs.length = bs.length := by
  induction h with
  | nil => rfl
  | cons h t ih => rw [List.length_cons, List.length_cons, ih]
theorem BxsAt.app {H : Hp} {qs ps : List Addr} {bs cs : List SBx} (h : BxsAt H qs bs) (g : BxsAt H ps cs) : BxsAt H (qs ++ ps) (bs ++ cs) := by
  induction h with
  | nil => exact g
  | cons h t ih => exact .cons h ih
theorem BxsAt.get {H : Hp} {qs : List Addr} {bs : List SBx} (h : BxsAt H qs bs) {i : Nat} {q : Addr} (e : qs[i]? = some q) : ∃ b, bs[i]? = some b ∧ H q = some (.tup (bxV b)) := by
  induction h generalizing i with
  | nil => cases e
  | @cons q' b qs bs h t ih =>
    cases i with
    | zero => cases e; exact ⟨_, rfl, h⟩
    | succ i => exact ih e
theorem BxsAt.put {H H' : Hp} {qs : List Addr} {bs : List SBx} (h : BxsAt H qs bs) (k : ∀ q xs, H q = some (.tup xs) → H' q = some (.tup xs)) : BxsAt H' qs bs := by
  induction h with
  | nil => exact .nil
  | cons h t ih => exact .cons (k _ _ h) ih
def BxL (H : Hp) (a : Addr) (bs : List SBx) : Prop := ∃ qs : List Addr, H a = some (.lst (qs.map V.ref)) ∧ BxsAt H qs bs
theorem BxL.keep {a : Addr} {H H' : Hp} {bs : List SBx} (k : Keep H H') (h : BxL H a bs) : BxL H' a bs := by
  obtain ⟨qs, e, p⟩ := h
  exact ⟨qs, k _ _ (fun q z => by cases z) e, p.put fun q xs e => k _ _ (fun q z => by cases z) e⟩
theorem BxL.exd {a : Addr} {H H' : Hp} {bs : List SBx} (x : Exd H H') (h : BxL H a bs) : BxL H' a bs := h.keep fun b o _ e => x b o e
theorem BxL.nw {P a : Addr} {H H' : Hp} {bs : List SBx} (x : Nw P H H') (h : BxL H a bs) : BxL H' a bs := h.keep x.keep
/-- as data -/
def bxDat (b : SBx) : PyData := .tuple [.str b.1, .int (b.2.1 : Int), .int (b.2.2.1 : Int), .int (b.2.2.2.1 : Int), .int (b.2.2.2.2 : Int)]
def bxsDat (bs : List SBx) : PyData := .list (bs.map bxDat)
theorem bxDat_dp {K : PySem.W.Frag} {H : Hp} {q : Addr} {b : SBx} (h : H q = some (.tup (bxV b))) : Dp K H (.ref q) (bxDat b) :=
  .tup (SqT.of h) (.cons (.str _) (.cons (.int _) (.cons (.int _) (.cons (.int _) (.cons (.int _) .nil)))))
theorem BxsAt.dp {K : PySem.W.Frag} {H : Hp} {qs : List Addr} {bs : List SBx} (h : BxsAt H qs bs) : DpAll K H (qs.map V.ref) (bs.map bxDat) := by
  induction h with
  | nil => exact .nil
  | cons h t ih => exact .cons (bxDat_dp h) ih
theorem BxL.dp {K : PySem.W.Frag} {H : Hp} {a : Addr} {bs : List SBx} (h : BxL H a bs) : Dp K H (.ref a) (bxsDat bs) := by
  obtain ⟨qs, e, p⟩ := h
  exact .lst (SqL.of e) p.dp
theorem intEq (a b : Nat) : PyData.eqv (.int (a : Int)) (.int (b : Int)) = decide (a = b) := by
  simp only [PyData.eqv]
  first
    | exact decide_eq_decide.mpr ⟨fun z => Int.ofNat.inj z, fun z => congrArg _ z⟩
    | (rw [Bool.eq_iff_iff]; simp)
theorem strEq (a b : Str) : PyData.eqv (.str a) (.str b) = decide (a = b) := by
  simp only [PyData.eqv]
  try (rw [Bool.eq_iff_iff]; simp)
theorem bxDat_eqv (b c : SBx) : PyData.eqv (bxDat b) (bxDat c) = decide (b = c) := by
  obtain ⟨k, x, y, z, u⟩ := b
  obtain ⟨k', x', y', z', u'⟩ := c
  simp only [bxDat, PyData.eqv, PyData.eqvAll]
  rw [Bool.eq_iff_iff]
  simp [and_assoc]
  intro _
  omega
theorem bxDats_eqv : ∀ bs cs : List SBx, PyData.eqvAll (bs.map bxDat) (cs.map bxDat) = decide (bs = cs)
  | [], [] => by simp [PyData.eqvAll]
  | [], _ :: _ => by simp [PyData.eqvAll]
  | _ :: _, [] => by simp [PyData.eqvAll]
  | b :: bs, c :: cs => by
    simp only [List.map_cons, PyData.eqvAll, bxDat_eqv, bxDats_eqv bs cs]
    rw [Bool.eq_iff_iff]
    simp
theorem bxsDat_eqv (bs cs : List SBx) : PyData.eqv (bxsDat bs) (bxsDat cs) = decide (bs = cs) := by
  simp only [bxsDat, PyData.eqv]
  exact bxDats_eqv bs cs
theorem bxDats_lay {bs : List SBx} (h : ∀ b ∈ bs, PyData.strOk b.1 = true) : PyData.canLayAll0 (bs.map bxDat) = true := by
  induction bs with
  | nil => simp [PyData.canLayAll0]
  | cons b bs ih =>
    simp only [List.map_cons, PyData.canLayAll0, bxDat, PyData.canLay0, h b List.mem_cons_self, ih fun c hc => h c (List.mem_cons_of_mem _ hc), Bool.and_self]
theorem bxDats_depth (bs : List SBx) : PyData.depthAll (bs.map bxDat) ≤ 1 := by
  induction bs with
  | nil => simp [PyData.depthAll]
  | cons b bs ih =>
    simp only [List.map_cons, PyData.depthAll, bxDat, PyData.depth]
    first
      | omega
      | (simp; omega)
theorem bxDat_shaped {b : SBx} (h : PyData.strOk b.1 = true) : SeqAt.shaped (bxDat b) = true := by
  simp only [SeqAt.shaped, bxDat, PyData.canLay0, PyData.canLayAll0, PyData.depth, PyData.depthAll, h, Bool.and_self, Bool.true_and]
  decide
theorem bxsDat_shaped {bs : List SBx} (h : ∀ b ∈ bs, PyData.strOk b.1 = true) : SeqAt.shaped (bxsDat bs) = true := by
  have d := bxDats_depth bs
  simp only [SeqAt.shaped, bxsDat, PyData.canLay0, PyData.depth, bxDats_lay h, Bool.true_and]
  exact decide_eq_true (by omega)
end LL
namespace LL
open PySem PySem.Spec PyProof.Rows L2
theorem str_declines {b : Str} {u : Tok} {l : Addr} : Meets (Builtin.«str.__eq__» { pos := [.str b u, .ref l] }) fun _ R s =>
    (∃ o es ep, s.heap.get? l = some o ∧ o.data = .dict es ep) ∧ R (.ok (.ret .notImplemented)) s := by
  rintro prog w A R s ⟨⟨o, es, ep, e, d⟩, h⟩
  unfold Builtin.«str.__eq__» Builtin.Str.strCompare
  refine wpAny_bind ?_
  unfold Builtin.Str.strSlot
  refine wpAny_bind ?_
  unfold slotArgs
  refine wpAny_ite_false (by rfl) ?_
  refine wpAny_ite_false (by rfl) (wpAny_pure ?_)
  refine wpAny_bind (wpAny_pure (wpAny_pure ?_))
  refine wpAny_bind (m := asStr? (.ref l)) ?_
  unfold asStr?
  refine wpAny_bind (wpAny_load e ?_)
  rw [d]
  refine wpAny_pure ?_
  refine wpAny_bind (wpAny_rule ?_)
  exact wpAny_pure h
theorem dict_gives {d : Addr} {x : Str} {t : Tok} : Gives (Builtin.«dict.__eq__» { pos := [.ref d, .str x t] }) (Made.val .notImplemented) := Gives.of_wp fun M A E s Q h => by
  refine wpAny_bind (m := Builtin.Dict.dictSlotArgs "__eq__" _) ?_
  unfold Builtin.Dict.dictSlotArgs
  refine wpAny_bind ?_
  unfold Builtin.Dict.notOrdered
  refine wpAny_ite_false (by decide) (wpAny_pure ?_)
  refine wpAny_bind ?_
  unfold slotArgs
  refine wpAny_ite_false (by rfl) ?_
  refine wpAny_ite_false (by rfl) (wpAny_pure ?_)
  refine wpAny_pure ?_
  refine wpAny_bind (wpAny_isInstance_val (T := "str") (b := false) rfl (by rfl) ?_)
  refine wpAny_bind (wpAny_rule ?_)
  exact wpAny_pure ⟨_, rfl, h⟩
theorem eq_str_dict {prog : Program} {w : World} {A : Around} {E : Value → Shared → Prop} {s : Shared} {Q : Value → Shared → Prop} {d : Addr} {o : Obj} {es : Array DictEntry} {ep : Nat} {x : Str} {t : Tok}
    (e : s.heap.get? d = some o) (hc : o.cls = .type "dict") (hd : o.data = .dict es ep) (hu : A.units < cLine) (h : Q (.bool false) s) : wpAny (model prog w) A (compareOp .Eq (.str x t) (.ref d)) Q E s := by
  have ta : s.TypeIs (.str x t) "str" := rfl
  have tb : s.TypeIs (.ref d) "dict" := ⟨o, e, hc⟩
  show wpAny _ A (richCompare .Eq _ _) Q E s
  unfold richCompare
  refine wpAny_holding (wpAny_bind (wpAny_cRoomFor_or (.inr hu) ?_))
  rw [Shared.TypeIs.oneThing_none ta]
  refine wpAny_bind (wpAny_typeOf ta (wpAny_bind (wpAny_typeOf tb ?_)))
  have ne : (Value.type "str" != Value.type "dict") = true := by decide
  rw [if_pos ne]
  have sub : isSubtype (Value.type "dict") (Value.type "str") = pure false := rfl
  rw [sub]
  refine wpAny_bind (wpAny_pure ?_)
  simp only [Bool.false_eq_true, if_false]
  refine wpAny_bind ?_
  refine wpAny_tryCompare_declines ta F.slot_str_eq (call_meets F.slot_str_eq ta F.entry_str_eq (F.args_str_eq_2 _ _) str_declines ⟨⟨o, es, ep, e, hd⟩, rfl, ?_⟩)
  simp only [Bool.not_false, if_true]
  refine wpAny_bind ?_
  refine wpAny_tryCompare_declines tb F.slot_dict_eq_refl (call_gives F.slot_dict_eq_refl tb F.entry_dict_eq (F.args_dict_eq_2 _ _) dict_gives ⟨rfl, ?_⟩)
  refine wpAny_bind (wpAny_rule ?_)
  exact wpAny_bind (wpAny_pure (wpAny_pure h))
/-- a thing that texts are compared with: for each text whether it is equal -/
inductive KeyT (K : PySem.W.Frag) (H : Hp) : V → (Str → Bool) → Prop
  | dat {y : V} {f : Str → Bool} {e : PyData} (d : Dp K H y e) (sh : SeqAt.shaped e = true) (h : ∀ k, PyData.eqv (.str k) e = f k) : KeyT K H y f
  | dic {a : Addr} {kvs : List (Key × V)} (h : H a = some (.dK kvs)) : KeyT K H (.ref a) (fun _ => false)
theorem strShaped {k : Str} (h : PyData.strOk k = true) : SeqAt.shaped (.str k) = true := by
  simp only [SeqAt.shaped, PyData.canLay0, PyData.depth, h, Bool.true_and]
  exact decide_eq_true (Nat.zero_le _)
def rEqT (K : PySem.W.Frag) : R2 := fun x y H Q => ∃ k f, x = .str k ∧ PyData.strOk k = true ∧ KeyT K H y f ∧ Q (.bl (f k)) H
theorem op_eqT {X : Cx} (hu : X.A.units + 64 < cLine) : OpR X (compareOp .Eq) (rEqT X.K) := by
  intro pins s σ H x y v u Q I rv ru ⟨k, f, e, hk, kt, q⟩
  subst e
  cases kt with
  | dat d sh h => exact op_eqD hu pins s σ H _ _ v u Q I rv ru ⟨_, _, .str k, d, strShaped hk, sh, by rw [h]; exact q⟩
  | dic h =>
    obtain ⟨z, lo, vs, rel, dd⟩ := dk_rd I.hok (.inl h)
    obtain ⟨o, es, ep, e, ex, d, _⟩ := dd
    obtain ⟨t, rfl⟩ := rv
    obtain rfl : u = Value.ref _ := ru
    exact eq_str_dict e ex.1 d (by omega) ⟨.bl false, H, I, rfl, q⟩
theorem KeyT.text {K : PySem.W.Frag} {H : Hp} {k : Str} (h : PyData.strOk k = true) : KeyT K H (.str k) (fun z => decide (z = k)) :=
  .dat (.str k) (strShaped h) fun z => strEq z k
theorem op_eqTK {X : Cx} {K : PySem.W.Frag} (h : X.K = K) (hu : X.A.units + 64 < cLine) : OpR X (compareOp .Eq) (rEqT K) := by
  subst h
  exact op_eqT hu
theorem KeyT.keep {K : PySem.W.Frag} {H H' : Hp} {y : V} {f : Str → Bool} (k : Keep H H') (dk : ∀ {y e}, Dp K H y e → Dp K H' y e) (h : KeyT K H y f) : KeyT K H' y f := by
  cases h with
  | dat d sh h => exact .dat (dk d) sh h
  | dic h => exact .dic (k _ _ (fun q z => by cases z) h)
theorem op_eqDK {X : Cx} {K : PySem.W.Frag} (h : X.K = K) (hu : X.A.units + 64 < cLine) : OpR X (compareOp .Eq) (rEqD K) := by
  subst h
  exact op_eqD hu
theorem op_neDK {X : Cx} {K : PySem.W.Frag} (h : X.K = K) (hu : X.A.units + 64 < cLine) : OpR X (compareOp .NotEq) (rNeD K) := by
  subst h
  exact op_neD hu
theorem dict_gives_ne {d : Addr} {x : Int} {t : Tok} : Gives (Builtin.«dict.__ne__» { pos := [.ref d, .int x t] }) (Made.val .notImplemented) := Gives.of_wp fun M A E s Q h => by
  refine wpAny_bind (m := Builtin.Dict.dictSlotArgs "__ne__" _) ?_
  unfold Builtin.Dict.dictSlotArgs
  refine wpAny_bind ?_
  unfold Builtin.Dict.notOrdered
  refine wpAny_ite_false (by decide) (wpAny_pure ?_)
  refine wpAny_bind ?_
  unfold slotArgs
  refine wpAny_ite_false (by rfl) ?_
  refine wpAny_ite_false (by rfl) (wpAny_pure ?_)
  refine wpAny_pure ?_
  refine wpAny_bind (wpAny_isInstance_val (T := "int") (b := false) rfl (by rfl) ?_)
  refine wpAny_bind (wpAny_rule ?_)
  exact wpAny_pure ⟨_, rfl, h⟩
theorem int_declines {b : Int} {u : Tok} {l : Addr} : Meets (Builtin.«int.__ne__» { pos := [.int b u, .ref l] }) fun _ R s =>
    (∃ o es ep, s.heap.get? l = some o ∧ o.data = .dict es ep) ∧ R (.ok (.ret .notImplemented)) s := by
  rintro prog w A R s ⟨⟨o, es, ep, e, d⟩, h⟩
  unfold Builtin.«int.__ne__»
  refine wpAny_bind ?_
  unfold slotArgs
  refine wpAny_ite_false (by rfl) ?_
  refine wpAny_ite_false (by rfl) (wpAny_pure ?_)
  refine wpAny_bind (m := Builtin.Int.intOfSelf (.int b u)) (wpAny_pure ?_)
  refine wpAny_bind (m := asInt? (.ref l)) ?_
  unfold asInt?
  refine wpAny_bind (wpAny_load e ?_)
  rw [d]
  refine wpAny_pure ?_
  refine wpAny_bind (wpAny_rule ?_)
  exact wpAny_pure h
theorem ne_dict_int {prog : Program} {w : World} {A : Around} {E : Value → Shared → Prop} {s : Shared} {Q : Value → Shared → Prop} {d : Addr} {o : Obj} {es : Array DictEntry} {ep : Nat} {x : Int} {t : Tok}
    (e : s.heap.get? d = some o) (hc : o.cls = .type "dict") (hd : o.data = .dict es ep) (hu : A.units < cLine) (h : Q (.bool true) s) : wpAny (model prog w) A (compareOp .NotEq (.ref d) (.int x t)) Q E s := by
  have ta : s.TypeIs (.int x t) "int" := rfl
  have tb : s.TypeIs (.ref d) "dict" := ⟨o, e, hc⟩
  show wpAny _ A (richCompare .NotEq _ _) Q E s
  unfold richCompare
  refine wpAny_holding (wpAny_bind (wpAny_cRoomFor_or (.inr hu) ?_))
  rw [Shared.TypeIs.oneThing_none tb]
  refine wpAny_bind (wpAny_typeOf tb (wpAny_bind (wpAny_typeOf ta ?_)))
  have ne : (Value.type "dict" != Value.type "int") = true := by decide
  rw [if_pos ne]
  have sub : isSubtype (Value.type "int") (Value.type "dict") = pure false := rfl
  rw [sub]
  refine wpAny_bind (wpAny_pure ?_)
  simp only [Bool.false_eq_true, if_false]
  refine wpAny_bind ?_
  refine wpAny_tryCompare_declines tb F.slot_dict_ne (call_gives F.slot_dict_ne tb F.entry_dict_ne (F.args_dict_ne_2 _ _) dict_gives_ne ⟨rfl, ?_⟩)
  simp only [Bool.not_false, if_true]
  refine wpAny_bind ?_
  refine wpAny_tryCompare_declines ta F.slot_int_ne_refl (call_meets F.slot_int_ne_refl ta F.entry_int_ne (F.args_int_ne_2 _ _) int_declines ⟨⟨o, es, ep, e, hd⟩, rfl, ?_⟩)
  refine wpAny_bind (wpAny_rule ?_)
  exact wpAny_bind (wpAny_pure (wpAny_pure h))
/-- a thing, and whether it is another one than a number -/
inductive NeN (K : PySem.W.Frag) (H : Hp) (n : Int) : V → Bool → Prop
  | dat {y : V} {e : PyData} (d : Dp K H y e) (sh : SeqAt.shaped e = true) : NeN K H n y (!PyData.eqv e (.int n))
  | dic {a : Addr} {kvs : List (Key × V)} (h : H a = some (.dK kvs)) : NeN K H n (.ref a) true
def rNeN (K : PySem.W.Frag) : R2 := fun x y H Q => ∃ n b, y = .int n ∧ SeqAt.shaped (.int n) = true ∧ NeN K H n x b ∧ Q (.bl b) H
theorem op_neN {X : Cx} (hu : X.A.units + 64 < cLine) : OpR X (compareOp .NotEq) (rNeN X.K) := by
  intro pins s σ H x y v u Q I rv ru ⟨n, b, e, sn, kt, q⟩
  subst e
  cases kt with
  | dat d sh => exact op_neD hu pins s σ H _ _ v u Q I rv ru ⟨_, _, d, .int n, sh, sn, q⟩
  | dic h =>
    obtain ⟨z, lo, vs, rel, dd⟩ := dk_rd I.hok (.inl h)
    obtain ⟨o, es, ep, e, ex, d, _⟩ := dd
    obtain ⟨t, rfl⟩ := ru
    obtain rfl : v = Value.ref _ := rv
    exact ne_dict_int e ex.1 d (by omega) ⟨.bl true, H, I, rfl, q⟩
theorem call_list_ofK {X : Cx} {K : PySem.W.Frag} (h : X.K = K) : CallR X (.type "list") (fun xs H Q => ∃ p ys, xs = [V.ref p] ∧ (SqL K H p ys ∨ SqT K H p ys) ∧ ∀ l, H l = none → Q (V.ref l) (upd H l (.lst ys))) := by
  subst h
  exact call_list_of
end LL
namespace LL
open PySem PySem.Spec PyProof.Rows L2
/-! ### data that may hold {}: repr -/
mutual
inductive Dz (H : Hp) : V → PyData → Prop
  | non : Dz H .non .none
  | bl (b : Bool) : Dz H (.bl b) (.bool b)
  | int (i : Int) : Dz H (.int i) (.int i)
  | str (x : Str) : Dz H (.str x) (.str x)
  | lst {a : Addr} {xs : List V} {ds : List PyData} : H a = some (.lst xs) → DzAll H xs ds → Dz H (.ref a) (.list ds)
  | tup {a : Addr} {xs : List V} {ds : List PyData} : H a = some (.tup xs) → DzAll H xs ds → Dz H (.ref a) (.tuple ds)
  | dct {a : Addr} : H a = some (.dK []) → Dz H (.ref a) (.dict [])
inductive DzAll (H : Hp) : List V → List PyData → Prop
  | nil : DzAll H [] []
  | cons {v : V} {vs : List V} {d : PyData} {ds : List PyData} : Dz H v d → DzAll H vs ds → DzAll H (v :: vs) (d :: ds)
end
mutual
theorem Dz.keep {H H' : Hp} (k : Keep H H') : ∀ (d : PyData) (v : V), Dz H v d → Dz H' v d
  | _, _, .non => .non
  | _, _, .bl b => .bl b
  | _, _, .int i => .int i
  | _, _, .str x => .str x
  | _, _, .lst h t => .lst (k _ _ (fun q z => by cases z) h) (DzAll.keep k _ _ t)
  | _, _, .tup h t => .tup (k _ _ (fun q z => by cases z) h) (DzAll.keep k _ _ t)
  | _, _, .dct h => .dct (k _ _ (fun q z => by cases z) h)
theorem DzAll.keep {H H' : Hp} (k : Keep H H') : ∀ (ds : List PyData) (vs : List V), DzAll H vs ds → DzAll H' vs ds
  | _, _, .nil => .nil
  | _, _, .cons h t => .cons (Dz.keep k _ _ h) (DzAll.keep k _ _ t)
end
section
variable {X : Cx} {pins : List (Addr × Obj)} {σ : L2.St} {H : Hp} {s : Shared}
mutual
theorem Dz.rep (I : Inv X pins σ H s) : ∀ (d : PyData) (v : V) (u : Value), Dz H v d → RelV v u → d.showable = true → d.shown.length ≤ sizeLine →
    ∃ as bs, Reads s.heap u d as ∧ ReadAtMost s.heap d.depth bs ∧ ReprK X.prog X.w bs s.heap d.depth u d.shown
  | .none, _, _, h, r, _, _ => by
    cases h
    cases r
    refine ⟨_, [], Reads.none, fun b hb => (nomatch hb), ?_⟩
    simp only [PyData.shown]
    exact .of_is ReprIs.none _ _ _
  | .bool b, _, _, h, r, _, _ => by
    cases h
    cases r
    refine ⟨_, [], Reads.bool b, fun b hb => (nomatch hb), ?_⟩
    simp only [PyData.shown]
    exact .of_is (ReprIs.bool b) _ _ _
  | .int i, _, _, h, r, sh, _ => by
    cases h
    obtain ⟨t, rfl⟩ := r
    refine ⟨_, [], Reads.int i t, fun b hb => (nomatch hb), ?_⟩
    simp only [PyData.shown]
    exact .of_is (ReprIs.int t (by simpa [PyData.showable] using sh)) _ _ _
  | .str x, _, _, h, r, _, z => by
    cases h
    obtain ⟨t, rfl⟩ := r
    refine ⟨_, [], Reads.str x t, fun b hb => (nomatch hb), ?_⟩
    simp only [PyData.shown]
    exact .of_is (ReprIs.str x t (by simpa only [PyData.shown] using z)) _ _ _
  | .list ds, _, _, h, r, sh, z => by
    cases h with
    | @lst a xs _ hs ha =>
      cases r
      obtain ⟨its, rv, ⟨o, n, ho, hc, _, hd⟩, _⟩ := I.list (SqL.of hs)
      have z2 : (listText (PyData.shownAll ds)).length ≤ sizeLine := by simpa only [PyData.shown] using z
      obtain ⟨as, bs, hr, most, hk⟩ := DzAll.rep I ds _ its ha rv (by simpa only [PyData.showable] using sh) fun t ht => Nat.le_trans (listText_mem_le ht) z2
      have rr := Reads.list ho hc hd hr
      have no := not_mem_of_deeper rr (by simp only [PyData.depth]; omega) most
      refine ⟨_, _ :: bs, rr, ReadAtMost.cons rr (Nat.le_refl _) (most.mono (by simp only [PyData.depth]; omega)), ?_⟩
      simp only [PyData.depth, PyData.shown]
      cases its with
      | nil =>
        have e0 : PyData.shownAll ds = [] := List.length_eq_zero_iff.mp hk.length_eq
        rw [e0, listText_nil]
        have := ReprK.listEmpty (prog := X.prog) (w := X.w) (as := a :: bs) (d := PyData.depthAll ds + 1) ho hc hd
        exact this
      | cons x l => exact ReprK.list ho hc hd no (by simpa using hk.length_eq) fun i y e => hk.item i y (by simpa using e)
  | .tuple ds, _, _, h, r, sh, z => by
    cases h with
    | tup hs ha =>
      cases r
      obtain ⟨its, rv, ⟨o, ho, hc, n, hd⟩, _⟩ := I.tuple (SqT.of hs)
      have z2 : (tupleText (PyData.shownAll ds)).length ≤ sizeLine := by simpa only [PyData.shown] using z
      obtain ⟨as, bs, hr, most, hk⟩ := DzAll.rep I ds _ its ha rv (by simpa only [PyData.showable] using sh) fun t ht => Nat.le_trans (tupleText_mem_le ht) z2
      have rr := Reads.tuple ho hc hd hr
      have no := not_mem_of_deeper rr (by simp only [PyData.depth]; omega) most
      refine ⟨_, _ :: bs, rr, ReadAtMost.cons rr (Nat.le_refl _) (most.mono (by simp only [PyData.depth]; omega)), ?_⟩
      simp only [PyData.depth, PyData.shown]
      exact ReprK.tuple ho hc hd no hk
  | .dict kvs, _, _, h, r, _, _ => by
    cases h with
    | dct hs =>
      cases r
      obtain ⟨z, lo, vs, rel, o, es, ep, h1, h2, h3, h4, h5, h6⟩ := dk_rd I.hok (.inl hs)
      cases rel
      have e0 : es.toList = [] := by
        cases q : es.toList with
        | nil => rfl
        | cons x xs =>
          rw [q] at h5
          cases h5
      have rr : Reads s.heap _ (.dict []) _ := Reads.dict (as := []) (bs := []) (kvs := []) h1 h2.1 h3 (by rw [e0]; exact ReadsAll.nil) (by rw [e0]; exact ReadsAll.nil)
      refine ⟨_, [_], rr, ReadAtMost.cons rr (Nat.le_refl _) (fun b hb => (nomatch hb)), ?_⟩
      have := ReprK.dict (prog := X.prog) (w := X.w) (as := []) (d := 0) (ps := []) h1 h2.1 h3 lo List.not_mem_nil (by rw [e0]; exact ReprEntriesK.nil)
      simpa only [PyData.depth, PyData.depthKv, PyData.shown, PyData.shownKv] using this
theorem DzAll.rep (I : Inv X pins σ H s) : ∀ (ds : List PyData) (vs : List V) (us : List Value), DzAll H vs ds → Vals vs us → PyData.showableAll ds = true → (∀ t ∈ PyData.shownAll ds, t.length ≤ sizeLine) →
    ∃ as bs, ReadsAll s.heap us ds as ∧ ReadAtMost s.heap (PyData.depthAll ds) bs ∧ ReprAllK X.prog X.w bs s.heap (PyData.depthAll ds) us (PyData.shownAll ds)
  | [], _, _, h, r, _, _ => by
    cases h
    cases r
    refine ⟨_, [], ReadsAll.nil, fun b hb => (nomatch hb), ?_⟩
    simp only [PyData.shownAll]
    exact .nil
  | d :: ds, _, _, h, r, sh, z => by
    cases h with
    | cons h1 h2 =>
      cases r with
      | cons r1 r2 =>
        simp only [PyData.showableAll, Bool.and_eq_true] at sh
        simp only [PyData.shownAll, List.mem_cons] at z
        obtain ⟨as, b1, q1, m1, k1⟩ := Dz.rep I d _ _ h1 r1 sh.1 (z _ (.inl rfl))
        obtain ⟨bs, b2, q2, m2, k2⟩ := DzAll.rep I ds _ _ h2 r2 sh.2 fun t ht => z t (.inr ht)
        refine ⟨_, b1 ++ b2, ReadsAll.cons q1 q2, ?_, ?_⟩
        · simp only [PyData.depthAll]
          exact (m1.mono (by omega)).append (m2.mono (by omega))
        · simp only [PyData.depthAll, PyData.shownAll]
          exact .cons ((k1.more fun b hb => List.mem_append_left _ hb).level_le (by omega)) (k2.more_le (fun b hb => List.mem_append_right _ hb) (by omega))
end
end
/-- what repr asks of such data -/
structure Sz (d : PyData) (k W : Nat) : Prop where
  sh : d.showable = true
  lv : d.leavesShort 60 = true
  dep : d.depth ≤ k
  wt : d.weight ≤ W
structure SzAll (ds : List PyData) (k W : Nat) : Prop where
  sh : PyData.showableAll ds = true
  lv : PyData.leavesShortAll 60 ds = true
  dep : PyData.depthAll ds ≤ k
  wt : PyData.weightAll ds ≤ W
theorem SzAll.cons {d : PyData} {ds : List PyData} {k l W U : Nat} (h : Sz d k W) (t : SzAll ds l U) : SzAll (d :: ds) (max k l) (W + 1 + U) := by
  refine ⟨?_, ?_, ?_, ?_⟩
  · simp only [PyData.showableAll, h.sh, t.sh, Bool.and_self]
  · simp only [PyData.leavesShortAll, h.lv, t.lv, Bool.and_self]
  · simp only [PyData.depthAll]
    have := h.dep
    have := t.dep
    omega
  · simp only [PyData.weightAll]
    have := h.wt
    have := t.wt
    omega
theorem szAll_nil : SzAll [] 0 0 := ⟨rfl, rfl, Nat.le_refl _, Nat.le_refl _⟩
theorem SzAll.list {ds : List PyData} {k W : Nat} (t : SzAll ds k W) : Sz (.list ds) (k + 1) W :=
  ⟨by simp only [PyData.showable]; exact t.sh, by simp only [PyData.leavesShort]; exact t.lv, by simp only [PyData.depth]; have := t.dep; omega, by simp only [PyData.weight]; exact t.wt⟩
theorem SzAll.tuple {ds : List PyData} {k W : Nat} (t : SzAll ds k W) : Sz (.tuple ds) (k + 1) W :=
  ⟨by simp only [PyData.showable]; exact t.sh, by simp only [PyData.leavesShort]; exact t.lv, by simp only [PyData.depth]; have := t.dep; omega, by simp only [PyData.weight]; exact t.wt⟩
theorem Sz.mono {d : PyData} {k l W U : Nat} (h : Sz d k W) (a : k ≤ l) (b : W ≤ U) : Sz d l U := ⟨h.sh, h.lv, Nat.le_trans h.dep a, Nat.le_trans h.wt b⟩
theorem SzAll.mono {d : List PyData} {k l W U : Nat} (h : SzAll d k W) (a : k ≤ l) (b : W ≤ U) : SzAll d l U := ⟨h.sh, h.lv, Nat.le_trans h.dep a, Nat.le_trans h.wt b⟩
theorem szAll_of {ds : List PyData} {k W : Nat} (h : ∀ d ∈ ds, Sz d k W) : SzAll ds k ((W + 1) * ds.length) := by
  induction ds with
  | nil => exact szAll_nil.mono (Nat.zero_le _) (Nat.zero_le _)
  | cons d ds ih =>
    refine (SzAll.cons (h d List.mem_cons_self) (ih fun y hy => h y (List.mem_cons_of_mem _ hy))).mono (by omega) ?_
    rw [List.length_cons, Nat.mul_succ]
    omega
/-- repr of such data -/
theorem call_reprZ {X : Cx} (guard : X.A.guards = some []) {k : Nat} (room : Room k X.A) : CallR X (.builtin "repr") (fun xs H Q => ∃ v d, xs = [v] ∧ Dz H v d ∧ isDisplay d = true ∧ Sz d 60 200000 ∧ Q (.str d.shown) H) := by
  intro pins s σ H xs us Q I r ⟨v, d, e, dp, disp, sz, q⟩
  subst e
  obtain ⟨u, rfl, r1⟩ := vals1 r
  have dep := sz.dep
  have len : d.shown.length ≤ sizeLine := by
    have h1 := PyData.shown_le 60 (by decide) d sz.lv
    have h2 := sz.wt
    have h3 := PySem.sizeLine_eq
    omega
  have run := room.un
  have fin : ∀ h' u tk, (∀ b o, s.heap.get? b = some o → h'.get? b = some o) → ∃ v' H', Inv X pins σ H' { s with heap := h', toks := tk } ∧ RelV v' (.str d.shown u) ∧ Q v' H' :=
    fun h' u tk keep => ⟨.str _, H, I.kept keep, ⟨_, rfl⟩, q⟩
  cases dp with
  | @lst a xs ds hs ha =>
    cases r1
    obtain ⟨its, rv, ⟨o, n, ho, hc, _, hd⟩, _⟩ := I.list (SqL.of hs)
    have z2 : (listText (PyData.shownAll ds)).length ≤ sizeLine := by simpa only [PyData.shown] using len
    obtain ⟨as, bs, hr, most, hk⟩ := DzAll.rep I ds _ its ha rv (by simpa only [PyData.showable] using sz.sh) fun t ht => Nat.le_trans (listText_mem_le ht) z2
    have rr := Reads.list ho hc hd hr
    have no := not_mem_of_deeper rr (by simp only [PyData.depth]; omega) most
    simp only [PyData.depth] at dep
    simp only [PyData.shown] at fin
    refine call_repr_slot (by omega) ⟨o, ho, hc⟩ F.slot_list_repr.toG ?_
    cases its with
    | nil =>
      have e0 : PyData.shownAll ds = [] := List.length_eq_zero_iff.mp hk.length_eq
      rw [e0, listText_nil] at fin
      exact call_list_repr_empty ⟨o, ho, hc⟩ ho hd ⟨_, _, rfl, fin s.heap _ _ fun _ _ e => e⟩
    | cons x l => exact call_list_reprK ho hc hd no (by simpa using hk.length_eq) (fun i y e => hk.item i y (by simpa using e)) guard (fun b _ => Clear.nil b) (by show X.A.units + 1 + (PyData.depthAll ds + 1) < cLine; omega) (fun _ _ e => e) (fun h' u tk k => ⟨_, _, rfl, fin h' u tk k⟩) z2
  | @tup a xs ds hs ha =>
    cases r1
    obtain ⟨its, rv, ⟨o, ho, hc, n, hd⟩, _⟩ := I.tuple (SqT.of hs)
    have z2 : (tupleText (PyData.shownAll ds)).length ≤ sizeLine := by simpa only [PyData.shown] using len
    obtain ⟨as, bs, hr, most, hk⟩ := DzAll.rep I ds _ its ha rv (by simpa only [PyData.showable] using sz.sh) fun t ht => Nat.le_trans (tupleText_mem_le ht) z2
    have rr := Reads.tuple ho hc hd hr
    have no := not_mem_of_deeper rr (by simp only [PyData.depth]; omega) most
    simp only [PyData.depth] at dep
    simp only [PyData.shown] at fin
    refine call_repr_slot (by omega) ⟨o, ho, hc⟩ F.slot_tuple_repr ?_
    exact call_tuple_reprK ho hc hd no hk guard (fun b _ => Clear.nil b) (by show X.A.units + 1 + (PyData.depthAll ds + 1) < cLine; omega) (fun _ _ e => e) (fun h' u tk k => ⟨_, _, rfl, fin h' u tk k⟩) z2
  | _ => cases disp
/-! ### such data compared: thing == text, list != [] -/
theorem eq_dict_str {prog : Program} {w : World} {A : Around} {E : Value → Shared → Prop} {s : Shared} {Q : Value → Shared → Prop} {d : Addr} {o : Obj} {es : Array DictEntry} {ep : Nat} {x : Str} {t : Tok}
    (e : s.heap.get? d = some o) (hc : o.cls = .type "dict") (hd : o.data = .dict es ep) (hu : A.units < cLine) (h : Q (.bool false) s) : wpAny (model prog w) A (compareOp .Eq (.ref d) (.str x t)) Q E s := by
  have ta : s.TypeIs (.str x t) "str" := rfl
  have tb : s.TypeIs (.ref d) "dict" := ⟨o, e, hc⟩
  show wpAny _ A (richCompare .Eq _ _) Q E s
  unfold richCompare
  refine wpAny_holding (wpAny_bind (wpAny_cRoomFor_or (.inr hu) ?_))
  rw [Shared.TypeIs.oneThing_none tb]
  refine wpAny_bind (wpAny_typeOf tb (wpAny_bind (wpAny_typeOf ta ?_)))
  have ne : (Value.type "dict" != Value.type "str") = true := by decide
  rw [if_pos ne]
  have sub : isSubtype (Value.type "str") (Value.type "dict") = pure false := rfl
  rw [sub]
  refine wpAny_bind (wpAny_pure ?_)
  simp only [Bool.false_eq_true, if_false]
  refine wpAny_bind ?_
  refine wpAny_tryCompare_declines tb F.slot_dict_eq (call_gives F.slot_dict_eq tb F.entry_dict_eq (F.args_dict_eq_2 _ _) dict_gives ⟨rfl, ?_⟩)
  simp only [Bool.not_false, if_true]
  refine wpAny_bind ?_
  refine wpAny_tryCompare_declines ta F.slot_str_eq_refl (call_meets F.slot_str_eq_refl ta F.entry_str_eq (F.args_str_eq_2 _ _) str_declines ⟨⟨o, es, ep, e, hd⟩, rfl, ?_⟩)
  refine wpAny_bind (wpAny_rule ?_)
  exact wpAny_bind (wpAny_pure (wpAny_pure h))
/-- a thing, and whether it is this text -/
inductive EqS (K : PySem.W.Frag) (H : Hp) (k : Str) : V → Bool → Prop
  | dat {y : V} {e : PyData} (d : Dp K H y e) (sh : SeqAt.shaped e = true) : EqS K H k y (PyData.eqv e (.str k))
  | dic {a : Addr} {kvs : List (Key × V)} (h : H a = some (.dK kvs)) : EqS K H k (.ref a) false
def rEqS (K : PySem.W.Frag) : R2 := fun x y H Q => ∃ k b, y = .str k ∧ PyData.strOk k = true ∧ EqS K H k x b ∧ Q (.bl b) H
theorem op_eqS {X : Cx} (hu : X.A.units + 64 < cLine) : OpR X (compareOp .Eq) (rEqS X.K) := by
  intro pins s σ H x y v u Q I rv ru ⟨k, b, e, sk, kt, q⟩
  subst e
  cases kt with
  | dat d sh => exact op_eqD hu pins s σ H _ _ v u Q I rv ru ⟨_, _, d, .str k, sh, strShaped sk, q⟩
  | dic h =>
    obtain ⟨z, lo, vs, rel, dd⟩ := dk_rd I.hok (.inl h)
    obtain ⟨o, es, ep, e, ex, d, _⟩ := dd
    obtain ⟨t, rfl⟩ := ru
    obtain rfl : v = Value.ref _ := rv
    exact eq_dict_str e ex.1 d (by omega) ⟨.bl false, H, I, rfl, q⟩
def rNeE : R2 := fun x y H Q => ∃ a b xs, x = .ref a ∧ y = .ref b ∧ H a = some (.lst xs) ∧ H b = some (.lst []) ∧ Q (.bl (!xs.isEmpty)) H
theorem op_neE {X : Cx} (hu : X.A.units + 64 < cLine) : OpR X (compareOp .NotEq) rNeE := by
  intro pins s σ H x y v u Q I rv ru ⟨a, b, xs, ea, eb, ha, hb, q⟩
  subst ea eb
  obtain rfl : v = Value.ref _ := rv
  obtain rfl : u = Value.ref _ := ru
  obtain ⟨its, r1, ⟨o, n, ho, hc, _, hd⟩, _⟩ := I.list (SqL.of (K := X.K) ha)
  obtain ⟨its2, r2, ⟨o2, n2, ho2, hc2, _, hd2⟩, _⟩ := I.list (SqL.of (K := X.K) hb)
  cases r2
  cases r1 with
  | nil =>
    have := SeqAt.RcNeAt.lists (A := X.A) (s := s) (l := a) (b := b) (items := #[]) (items2 := #[]) ⟨o, ho, hc, n, hd⟩ ⟨o2, ho2, hc2, n2, hd2⟩ rfl (by omega) (e := fun _ => true) (fun j h1 _ => absurd h1 (Nat.not_lt_zero j))
    exact this _ _ _ _ ⟨.bl false, H, I, rfl, q⟩
  | cons h t =>
    exact SeqAt.RcNeAt.lists_lengths (A := X.A) (s := s) (l := a) (b := b) ⟨o, ho, hc, n, hd⟩ ⟨o2, ho2, hc2, n2, hd2⟩ (by simp) (by omega) _ _ _ _ ⟨.bl true, H, I, rfl, q⟩
/-! ### a <= b < c <= d -/
def tChain3 (r r1 r2 : R2) (ta tb tc td : TE) : TE := fun σ H Q => ta σ H fun x H1 => tb σ H1 fun y H2 => r x y H2 fun z H3 => ∃ k, z = .bl k ∧
  (if k = true then tc σ H3 fun v H4 => r1 y v H4 fun z2 H5 => ∃ k2, z2 = .bl k2 ∧ (if k2 = true then td σ H5 fun u H6 => r2 v u H6 Q else Q (.bl false) H5) else Q (.bl false) H3)
theorem pe_chain3 {X : Cx} {o o1 o2 : CmpOp} {r r1 r2 : R2} {a b c d : Expr} {ta tb tc td : TE} {pos : Pos} (h0 : OpR X (compareOp o) r) (h1 : OpR X (compareOp o1) r1) (h2 : OpR X (compareOp o2) r2) (pa : PE X a ta) (pb : PE X b tb) (pc : PE X c tc) (pd : PE X d td)
    (hm : lastMarks [o, o1, o2] [b, c, d] = false := by with_unfolding_all rfl) : PE X (.Compare a [o, o1, o2] [b, c, d] pos) (tChain3 r r1 r2 ta tb tc td) := by
  refine ⟨fun pins s σ H Q I h => Compare_chain ?_ hm⟩
  refine thn (pa.run pins s σ H _ I h) fun v s1 ⟨x, H1, I1, rx, q1⟩ => chain_link ?_
  refine thn (pb.run pins s1 σ H1 _ I1 q1) fun u s2 ⟨y, H2, I2, ry, q2⟩ => ?_
  refine thn (h0 pins s2 σ H2 x y v u _ I2 rx ry q2) fun e s3 ⟨z, H3, I3, r3, k, ek, q3⟩ => ?_
  subst ek
  cases r3
  refine wpAny_truthy_bool ?_
  cases k with
  | false => exact ite_ff ⟨.bl false, H3, I3, rfl, q3⟩
  | true =>
    refine ite_tt (chain_link ?_)
    refine thn (pc.run pins s3 σ H3 _ I3 q3) fun u4 s4 ⟨y4, H4, I4, r4, q4⟩ => ?_
    refine thn (h1 pins s4 σ H4 y y4 u u4 _ I4 ry r4 q4) fun e5 s5 ⟨z5, H5, I5, r5, k5, ek5, q5⟩ => ?_
    subst ek5
    cases r5
    refine wpAny_truthy_bool ?_
    cases k5 with
    | false => exact ite_ff ⟨.bl false, H5, I5, rfl, q5⟩
    | true => exact ite_tt (chain_last (thn (pd.run pins s5 σ H5 _ I5 q5) fun u6 s6 ⟨y6, H6, I6, r6, q6⟩ => h2 pins s6 σ H6 y4 y6 u4 u6 Q I6 r4 r6 q6))
end LL
namespace LL
open PySem PySem.Spec PyProof.Rows L2
/-! ### methods and __init__s that may raise; defaults -/
/-- a method of the class at C -/
structure Mn (K : PySem.W.Frag) (C : Addr) (x qual : Str) (st : Stmt) (ps : List Str) where
  f : Addr
  fd : FuncData
  F : Fun K x qual st f fd
  b : Binds K fd ps []
  h : Meth K C x f
/-- a method with one default, None -/
structure MnD (K : PySem.W.Frag) (C : Addr) (x qual : Str) (st : Stmt) (ps : List Str) where
  f : Addr
  fd : FuncData
  F : FunD K x qual (defArgs st) (defBody st) (defScope st) [.non] [] f fd
  b : Binds K fd ps []
  bd : Binds K fd ps [.none]
  h : Meth K C x f
section
variable {X : Cx} {CX : CXT} {k : Nat} {f C : Addr} {fd : FuncData} {ps : List Str} {sp : Sp} {dvs : List V} {ds : List Value} {E : L2.St → XK} {x m : Str} {p pos apos : Pos} {e o : Expr} {es : List Expr} {ta : TE} {t : TA}
theorem run_fnDS {pins : List (Addr × Obj)} {σ : L2.St} {H : Hp} {s : Shared} {Q : VK} {us : List Value} {vs : List V} (F : FnOk X.prog X.w X.K X.mg X.base CX k f fd ps sp) (hr : Room k X.A) (hb : Binds X.K fd ps ds) (hd : Vals dvs ds) (hx : PassesAt CX X σ (E σ))
    (I : Inv X pins σ H s) (r : Vals vs us) (h : sp (vs ++ dvs) H Q (E σ)) : wpAny (model X.prog X.w) X.A (call (.ref f) us) (EP X pins σ Q) X.xe s := by
  have r2 : Vals (vs ++ dvs) (us ++ ds) := r.append hd
  have hl : (us ++ ds).length = ps.length := by rw [← r2.length]; exact F.len _ _ _ _ h
  refine wpAny_call (codeAny_mono (F.run X.A X.stack s H ⟨us, []⟩ (us ++ ds) (vs ++ dvs) Q (E σ) hr I.env0 (hb s us I.kIn hl) r2 h) fun r s' hq => ?_)
  cases r with
  | error e => exact hx pins H s e s' I hq
  | ok fl =>
    cases fl with
    | ret u => exact I.after hq
    | next => exact False.elim hq
    | brk => exact False.elim hq
    | cont => exact False.elim hq
/-- o.m(e, ..), which may raise -/
def tMethS (C : Addr) (m : Str) (sp : Sp) (dvs : List V) (E : L2.St → XK) (to : TE) (t : TA) : TE := fun σ H Q => to σ H fun x H1 => ∃ a dx fs, x = .ref a ∧ H1 a = some (.ins C dx fs) ∧ fs.lookup m = none ∧ t σ H1 fun vs H2 => sp (x :: (vs ++ dvs)) H2 Q (E σ)
theorem pe_methS {pl : Sem Bool} (he : PE X o ta) (c : Cls X.K C) (hm : Meth X.K C m f) (F : FnOk X.prog X.w X.K X.mg X.base CX k f fd ps sp) (hr : Room k X.A) (hb : Binds X.K fd ps ds) (hd : Vals dvs ds) (hx : ∀ σ, PassesAt CX X σ (E σ)) (ha : PA X (e :: es) t)
    (hst : starEach (e :: es) X.env = (false, eval e X.env) :: starEach es X.env := by rfl) (hpl : (backTo pos (starEach es X.env)).any (·.1) = false := by rfl)
    (ht : eval (.Call (.Attribute o m apos) (e :: es) [] pos) X.env = (do
      let ov ← eval o X.env
      standAt apos.atName
      let (f, first) ← holding [ov] (getMethod ov m pl)
      callWith pos f first (backTo pos (starEach (e :: es) X.env)) (backToKw pos (keywordEach [] X.env))) := by rfl) :
    PE X (.Call (.Attribute o m apos) (e :: es) [] pos) (tMethS C m sp dvs E ta t) := by
  refine ⟨fun pins s σ H Q I h => ?_⟩
  refine PySem.W.methodCall_KW (pl := pl) (thn (he.run pins s σ H _ I h) fun u s1 ⟨x, H1, I1, rx, a, dx, fs, ex, ea, l, q⟩ => ?_) ht
  subst ex
  obtain rfl : u = Value.ref a := rx
  refine getmeth_ok I1 ea c hm l ?_
  refine PySem.W.callWith_K (first := [.ref a]) (h₀ := X.base) I.ok.mod.kin hm.kp (thn (ha.run pos pins s1 σ H1 _ I1 q) fun us s2 ⟨vs, H2, I2, r, q2⟩ => ⟨I2.kIn, ?_⟩) hst hpl
  exact run_fnDS (us := .ref a :: us) (vs := .ref a :: vs) F hr hb hd (hx σ) I2 (.cons rfl r) q2
theorem pe_meth0S {pl : Sem Bool} (he : PE X o ta) (c : Cls X.K C) (hm : Meth X.K C m f) (F : FnOk X.prog X.w X.K X.mg X.base CX k f fd ps sp) (hr : Room k X.A) (hb : Binds X.K fd ps ds) (hd : Vals dvs ds) (hx : ∀ σ, PassesAt CX X σ (E σ))
    (ht : eval (.Call (.Attribute o m apos) [] [] pos) X.env = (do
      let ov ← eval o X.env
      standAt apos.atName
      let (f, first) ← holding [ov] (getMethod ov m pl)
      callWith pos f first (backTo pos (starEach [] X.env)) (backToKw pos (keywordEach [] X.env))) := by rfl) :
    PE X (.Call (.Attribute o m apos) [] [] pos) (tMethS C m sp dvs E ta tNil) := by
  refine ⟨fun pins s σ H Q I h => ?_⟩
  refine PySem.W.methodCall_KW (pl := pl) (thn (he.run pins s σ H _ I h) fun u s1 ⟨x, H1, I1, rx, a, dx, fs, ex, ea, l, q⟩ => ?_) ht
  subst ex
  obtain rfl : u = Value.ref a := rx
  refine getmeth_ok I1 ea c hm l ?_
  exact PySem.W.callWith_K0 (first := [.ref a]) I1.kIn hm.kp (run_fnDS (us := [.ref a]) (vs := [.ref a]) F hr hb hd (hx σ) I1 (.cons rfl .nil) q)
theorem run_makeS {pins : List (Addr × Obj)} {σ : L2.St} {H : Hp} {s : Shared} {Q : VK} {us : List Value} {vs : List V} (M : Mk X.K C f) (F : FnOk X.prog X.w X.K X.mg X.base CX k f fd ps sp) (hr : Room (k + 1) X.A) (hb : Binds X.K fd ps ds) (hd : Vals dvs ds)
    (hx : PassesAt CX X σ (E σ)) (I : Inv X pins σ H s) (r : Vals vs us)
    (h : ∀ x dx, H x = none → H dx = none → dx ≠ x → sp (.ref x :: (vs ++ dvs)) (upd (upd H dx (.own x)) x (.ins C dx [])) (fun v H2 => v = .non ∧ Q (.ref x) H2) (E σ)) :
    wpAny (model X.prog X.w) X.A (call (.ref C) us) (EP X pins σ Q) X.xe s := by
  have hq := h (s.heap.objs.size + 1) s.heap.objs.size (I.hok.fresh (Nat.le_succ _)) (I.hok.fresh (Nat.le_refl _)) (Nat.ne_of_lt (Nat.lt_succ_self _))
  have I2 := Inv.made (C := C) I
  have r2 : Vals (V.ref (s.heap.objs.size + 1) :: (vs ++ dvs)) (Value.ref (s.heap.objs.size + 1) :: (us ++ ds)) := .cons rfl (r.append hd)
  have hl : (Value.ref (s.heap.objs.size + 1) :: us ++ ds).length = ps.length := by
    have e := r2.length
    rw [F.len _ _ _ _ hq] at e
    exact e.symm
  refine wpAny_call (make_map (f := f) I.kIn M.makes M.init (beq_iff_eq.mp M.fn) (codeAny_mono (F.run _ X.stack _ _ ⟨Value.ref (s.heap.objs.size + 1) :: us, []⟩ (Value.ref (s.heap.objs.size + 1) :: (us ++ ds)) _ _ (E σ) (hr.make C us [])
    (I2.env0.make C us []) (hb _ (Value.ref (s.heap.objs.size + 1) :: us) I2.kIn hl) r2 hq) fun r s' hq' => ?_))
  cases r with
  | error e => exact hx pins _ _ e s' I2 hq'
  | ok fl =>
    cases fl with
    | ret u =>
      obtain ⟨v, H', I3, rv, ev, q3⟩ := I2.after hq'
      subst ev
      exact ⟨rv, ⟨V.ref (s.heap.objs.size + 1), H', I3, rfl, q3⟩⟩
    | next => exact False.elim hq'
    | brk => exact False.elim hq'
    | cont => exact False.elim hq'
/-- C(e, ..), whose __init__ may raise -/
def tMakeS (C : Addr) (sp : Sp) (dvs : List V) (E : L2.St → XK) (t : TA) : TE := fun σ H Q => t σ H fun vs H1 => ∀ x dx, H1 x = none → H1 dx = none → dx ≠ x → sp (.ref x :: (vs ++ dvs)) (upd (upd H1 dx (.own x)) x (.ins C dx [])) (fun v H2 => v = .non ∧ Q (.ref x) H2) (E σ)
theorem pe_makeS (M : Mk X.K C f) (F : FnOk X.prog X.w X.K X.mg X.base CX k f fd ps sp) (hr : Room (k + 1) X.A) (hg : Gl X x) (hm : X.mg x = some (.ref C)) (hb : Binds X.K fd ps ds) (hd : Vals dvs ds) (hx : ∀ σ, PassesAt CX X σ (E σ))
    (ha : PA X (e :: es) t) (hdb : (x == ("__debug__" : Str)) = false := by decide) (he : starEach (e :: es) X.env = (false, eval e X.env) :: starEach es X.env := by rfl) (hpl : (backTo pos (starEach es X.env)).any (·.1) = false := by rfl) :
    PE X (.Call (.Name x p) (e :: es) [] pos) (tMakeS C sp dvs E t) := by
  refine ⟨fun pins s σ H Q I h => ?_⟩
  refine wpAny_Call_Name_kw (ld_glob I hg hm ?_ hdb)
  refine PySem.W.callWith_K (h₀ := X.base) I.ok.mod.kin M.kp (thn (ha.run pos pins s σ H _ I h) fun us s1 ⟨vs, H1, I1, r, q⟩ => ⟨I1.kIn, ?_⟩) he hpl
  exact run_makeS M F hr hb hd (hx σ) I1 r q
end
section
variable {X : Cx} {C : Addr} {x y qual : Str} {st : Stmt} {ps : List Str} {sp : Sp} {j k : Nat} {o e : Expr} {es : List Expr} {to : TE} {t : TA} {p pos apos : Pos} {pl : Sem Bool} {W : WX} {f : Addr} {fd : FuncData}
/-- o.m(e, ..), never raising | that may raise -/
theorem pmeth (D : Mn X.K C x qual st ps) (G : FnOk X.prog X.w X.K X.mg X.base CX0 j D.f D.fd ps sp) (c : Cls X.K C) (hr : Room k X.A) (hjk : j ≤ k) (ho : PE X o to) (ha : PA X (e :: es) t)
    (hst : starEach (e :: es) X.env = (false, eval e X.env) :: starEach es X.env := by rfl) (hpl : (backTo pos (starEach es X.env)).any (·.1) = false := by rfl)
    (ht : eval (.Call (.Attribute o x apos) (e :: es) [] pos) X.env = (do
      let ov ← eval o X.env
      standAt apos.atName
      let (f, first) ← holding [ov] (getMethod ov x pl)
      callWith pos f first (backTo pos (starEach (e :: es) X.env)) (backToKw pos (keywordEach [] X.env))) := by rfl) :
    PE X (.Call (.Attribute o x apos) (e :: es) [] pos) (tMeth C x sp [] E0 to t) := pe_meth ho c D.h G (hr.mono hjk) D.b .nil pass0 ha hst hpl ht
theorem pmeth0 (D : Mn X.K C x qual st ps) (G : FnOk X.prog X.w X.K X.mg X.base CX0 j D.f D.fd ps sp) (c : Cls X.K C) (hr : Room k X.A) (hjk : j ≤ k) (ho : PE X o to)
    (ht : eval (.Call (.Attribute o x apos) [] [] pos) X.env = (do
      let ov ← eval o X.env
      standAt apos.atName
      let (f, first) ← holding [ov] (getMethod ov x pl)
      callWith pos f first (backTo pos (starEach [] X.env)) (backToKw pos (keywordEach [] X.env))) := by rfl) :
    PE X (.Call (.Attribute o x apos) [] [] pos) (tMeth C x sp [] E0 to tNil) := pe_meth0 ho c D.h G (hr.mono hjk) D.b .nil pass0 ht
/-- C(e, ..) -/
theorem pmake (M : Mk X.K C f) (b : Binds X.K fd ps []) (G : FnOk X.prog X.w X.K X.mg X.base CX0 j f fd ps sp) (hr : Room k X.A) (hjk : j + 1 ≤ k) (hg : Gl X x) (hm : X.mg x = some (.ref C)) (ha : PA X (e :: es) t)
    (hd : (x == ("__debug__" : Str)) = false := by decide) (he : starEach (e :: es) X.env = (false, eval e X.env) :: starEach es X.env := by rfl) (hp : (backTo pos (starEach es X.env)).any (·.1) = false := by rfl) :
    PE X (.Call (.Name x p) (e :: es) [] pos) (tMake C sp [] E0 t) := pe_make M G (hr.mono hjk) hg hm b .nil pass0 ha hd he hp
/-- C(), one default filled up -/
theorem pmake0 (M : Mk X.K C f) (b : Binds X.K fd ps [.none]) (G : FnOk X.prog X.w X.K X.mg X.base CX0 j f fd ps sp) (hr : Room k X.A) (hjk : j + 1 ≤ k) (hg : Gl X x) (hm : X.mg x = some (.ref C))
    (hd : (x == ("__debug__" : Str)) = false := by decide) :
    PE X (.Call (.Name x p) [] [] pos) (tMake C sp [.non] E0 tNil) := pe_make0 M G (hr.mono hjk) hg hm b (.cons rfl .nil) pass0 hd
theorem pmakeX (M : Mk X.K C f) (b : Binds X.K fd ps []) (G : FnOk X.prog X.w X.K X.mg X.base (CX X.prog X.w) j f fd ps sp) (tk : Takes X W) (hr : Room k X.A) (hjk : j + 1 ≤ k) (hg : Gl X x) (hm : X.mg x = some (.ref C)) (ha : PA X (e :: es) t)
    (hd : (x == ("__debug__" : Str)) = false := by decide) (he : starEach (e :: es) X.env = (false, eval e X.env) :: starEach es X.env := by rfl) (hp : (backTo pos (starEach es X.env)).any (·.1) = false := by rfl) :
    PE X (.Call (.Name x p) (e :: es) [] pos) (tMakeS C sp [] (WE W) t) := pe_makeS M G (hr.mono hjk) hg hm b .nil (fun σ => passAt tk σ) ha hd he hp
theorem pmethX (h : Meth X.K C x f) (b : Binds X.K fd ps []) (G : FnOk X.prog X.w X.K X.mg X.base (CX X.prog X.w) j f fd ps sp) (tk : Takes X W) (c : Cls X.K C) (hr : Room k X.A) (hjk : j ≤ k) (ho : PE X o to) (ha : PA X (e :: es) t)
    (hst : starEach (e :: es) X.env = (false, eval e X.env) :: starEach es X.env := by rfl) (hpl : (backTo pos (starEach es X.env)).any (·.1) = false := by rfl)
    (ht : eval (.Call (.Attribute o x apos) (e :: es) [] pos) X.env = (do
      let ov ← eval o X.env
      standAt apos.atName
      let (f, first) ← holding [ov] (getMethod ov x pl)
      callWith pos f first (backTo pos (starEach (e :: es) X.env)) (backToKw pos (keywordEach [] X.env))) := by rfl) :
    PE X (.Call (.Attribute o x apos) (e :: es) [] pos) (tMethS C x sp [] (WE W) to t) := pe_methS ho c h G (hr.mono hjk) b .nil (fun σ => passAt tk σ) ha hst hpl ht
/-- a method with a default, the default filled up -/
theorem pmethD (h : Meth X.K C x f) (b : Binds X.K fd ps [.none]) (G : FnOk X.prog X.w X.K X.mg X.base CX0 j f fd ps sp) (c : Cls X.K C) (hr : Room k X.A) (hjk : j ≤ k) (ho : PE X o to) (ha : PA X (e :: es) t)
    (hst : starEach (e :: es) X.env = (false, eval e X.env) :: starEach es X.env := by rfl) (hpl : (backTo pos (starEach es X.env)).any (·.1) = false := by rfl)
    (ht : eval (.Call (.Attribute o x apos) (e :: es) [] pos) X.env = (do
      let ov ← eval o X.env
      standAt apos.atName
      let (f, first) ← holding [ov] (getMethod ov x pl)
      callWith pos f first (backTo pos (starEach (e :: es) X.env)) (backToKw pos (keywordEach [] X.env))) := by rfl) :
    PE X (.Call (.Attribute o x apos) (e :: es) [] pos) (tMeth C x sp [.non] E0 to t) := pe_meth ho c h G (hr.mono hjk) b (.cons rfl .nil) pass0 ha hst hpl ht
end
section
variable {X : Cx} {C : Addr} {x y qual : Str} {st : Stmt} {ps : List Str} {sp : Sp} {j k : Nat} {o e : Expr} {es : List Expr} {to : TE} {t : TA} {p pos apos : Pos} {pl : Sem Bool} {W : WX} {f : Addr} {fd : FuncData}
/-- what may raise, called where it doesn't -/
theorem passG : Passes (CX X.prog X.w) X E0 := fun _ _ _ _ _ _ _ c => by
  obtain ⟨_, _, _, _, _, _, _, _, _, _, _, _, f⟩ := c
  exact f.elim
theorem pmakeG (M : Mk X.K C f) (b : Binds X.K fd ps []) (G : FnOk X.prog X.w X.K X.mg X.base (CX X.prog X.w) j f fd ps sp) (hr : Room k X.A) (hjk : j + 1 ≤ k) (hg : Gl X x) (hm : X.mg x = some (.ref C)) (ha : PA X (e :: es) t)
    (hd : (x == ("__debug__" : Str)) = false := by decide) (he : starEach (e :: es) X.env = (false, eval e X.env) :: starEach es X.env := by rfl) (hp : (backTo pos (starEach es X.env)).any (·.1) = false := by rfl) :
    PE X (.Call (.Name x p) (e :: es) [] pos) (tMake C sp [] E0 t) := pe_make M G (hr.mono hjk) hg hm b .nil passG ha hd he hp
/-- C(), one default filled up -/
theorem pmake0G (M : Mk X.K C f) (b : Binds X.K fd ps [.none]) (G : FnOk X.prog X.w X.K X.mg X.base (CX X.prog X.w) j f fd ps sp) (hr : Room k X.A) (hjk : j + 1 ≤ k) (hg : Gl X x) (hm : X.mg x = some (.ref C))
    (hd : (x == ("__debug__" : Str)) = false := by decide) :
    PE X (.Call (.Name x p) [] [] pos) (tMake C sp [.non] E0 tNil) := pe_make0 M G (hr.mono hjk) hg hm b (.cons rfl .nil) passG hd
theorem pmethG (h : Meth X.K C x f) (b : Binds X.K fd ps []) (G : FnOk X.prog X.w X.K X.mg X.base (CX X.prog X.w) j f fd ps sp) (c : Cls X.K C) (hr : Room k X.A) (hjk : j ≤ k) (ho : PE X o to) (ha : PA X (e :: es) t)
    (hst : starEach (e :: es) X.env = (false, eval e X.env) :: starEach es X.env := by rfl) (hpl : (backTo pos (starEach es X.env)).any (·.1) = false := by rfl)
    (ht : eval (.Call (.Attribute o x apos) (e :: es) [] pos) X.env = (do
      let ov ← eval o X.env
      standAt apos.atName
      let (f, first) ← holding [ov] (getMethod ov x pl)
      callWith pos f first (backTo pos (starEach (e :: es) X.env)) (backToKw pos (keywordEach [] X.env))) := by rfl) :
    PE X (.Call (.Attribute o x apos) (e :: es) [] pos) (tMeth C x sp [] E0 to t) := pe_meth ho c h G (hr.mono hjk) b .nil passG ha hst hpl ht
theorem pmethDG (h : Meth X.K C x f) (b : Binds X.K fd ps [.none]) (G : FnOk X.prog X.w X.K X.mg X.base (CX X.prog X.w) j f fd ps sp) (c : Cls X.K C) (hr : Room k X.A) (hjk : j ≤ k) (ho : PE X o to) (ha : PA X (e :: es) t)
    (hst : starEach (e :: es) X.env = (false, eval e X.env) :: starEach es X.env := by rfl) (hpl : (backTo pos (starEach es X.env)).any (·.1) = false := by rfl)
    (ht : eval (.Call (.Attribute o x apos) (e :: es) [] pos) X.env = (do
      let ov ← eval o X.env
      standAt apos.atName
      let (f, first) ← holding [ov] (getMethod ov x pl)
      callWith pos f first (backTo pos (starEach (e :: es) X.env)) (backToKw pos (keywordEach [] X.env))) := by rfl) :
    PE X (.Call (.Attribute o x apos) (e :: es) [] pos) (tMeth C x sp [.non] E0 to t) := pe_meth ho c h G (hr.mono hjk) b (.cons rfl .nil) passG ha hst hpl ht
theorem pmethDX (h : Meth X.K C x f) (b : Binds X.K fd ps [.none]) (G : FnOk X.prog X.w X.K X.mg X.base (CX X.prog X.w) j f fd ps sp) (tk : Takes X W) (c : Cls X.K C) (hr : Room k X.A) (hjk : j ≤ k) (ho : PE X o to) (ha : PA X (e :: es) t)
    (hst : starEach (e :: es) X.env = (false, eval e X.env) :: starEach es X.env := by rfl) (hpl : (backTo pos (starEach es X.env)).any (·.1) = false := by rfl)
    (ht : eval (.Call (.Attribute o x apos) (e :: es) [] pos) X.env = (do
      let ov ← eval o X.env
      standAt apos.atName
      let (f, first) ← holding [ov] (getMethod ov x pl)
      callWith pos f first (backTo pos (starEach (e :: es) X.env)) (backToKw pos (keywordEach [] X.env))) := by rfl) :
    PE X (.Call (.Attribute o x apos) (e :: es) [] pos) (tMethS C x sp [.non] (WE W) to t) := pe_methS ho c h G (hr.mono hjk) b (.cons rfl .nil) (fun σ => passAt tk σ) ha hst hpl ht
theorem pcallGX (D : Dn X.K X.mg x st ps) (G : FnOk X.prog X.w X.K X.mg X.base (CX X.prog X.w) j D.f D.fd ps sp) (hr : Room k X.A) (hjk : j ≤ k) (hg : Gl X x) (ha : PA X (e :: es) t) (hd : (x == ("__debug__" : Str)) = false := by decide)
    (he : starEach (e :: es) X.env = (false, eval e X.env) :: starEach es X.env := by rfl) (hp : (backTo pos (starEach es X.env)).any (·.1) = false := by rfl) :
    PE X (.Call (.Name x p) (e :: es) [] pos) (tCall sp [] E0 t) := pe_call G (hr.mono hjk) hg D.m D.F.kp D.b .nil passG ha hd he hp
end
/-! ### isinstance of a caught own error, several classes -/
theorem vals_refs : ∀ {rs : List Addr} {its : List Value}, Vals (rs.map V.ref) its → its = rs.map Value.ref
  | [], _, .nil => rfl
  | r :: rs, _, .cons h t => by
    rw [vals_refs (rs := rs) t]
    exact congrArg (fun z => z :: rs.map Value.ref) h
def rIsXT (K : PySem.W.Frag) (D a : Addr) (cls : Value) (d : Option Addr) : List V → Hp → VK → Prop := fun xs H Q =>
  ∃ (tp : Addr) (rs : List Addr) (b : Bool) (dx : Addr) (fs : List (Str × V)), xs = [.ref a, .ref tp] ∧ cls = .ref D ∧ d = some dx ∧ H tp = some (.tup (rs.map V.ref)) ∧ PySem.W.kitAny K (.ref D) (rs.map Value.ref) = some b ∧ H dx = some (.xd fs) ∧ Q (.bl b) H
/-- isinstance(e, (X, Y, ..)), e being caught -/
theorem call_isEXT {X : Cx} {a D : Addr} {cls : Value} {d : Option Addr} {oe : Obj} {pn : List (Addr × Obj)} (C : ExcC X.K D) (hz : Zc cls d oe) (hf : ∃ vs, oe.data = .fields vs) :
    CallR (X.suite a ((a, oe) :: pn)) (.builtin "isinstance") (rIsXT X.K D a cls d) := by
  rintro pins s σ H xs us Q I r ⟨tp, rs, b, dx, fs, rfl, hcls, hdd, hT, e, hd, q⟩
  cases r with
  | cons rx rr =>
    cases rr with
    | cons rt rr =>
      cases rr
      have rx : _ = _ := rx
      have rt : _ = _ := rt
      have p := I.pin (a, oe) List.mem_cons_self
      have ok := I.hok dx _ hd
      have : ∃ od, s.heap.get? dx = some od := by
        unfold ObjOk at ok
        obtain ⟨mA, ns, _⟩ := ok
        obtain ⟨o, es, ep, q, _⟩ := ns
        exact ⟨o, q⟩
      obtain ⟨od, hod⟩ := this
      obtain ⟨ocls, odict, odata, osl⟩ := oe
      obtain ⟨vs, hv⟩ := hf
      obtain ⟨h1, h2⟩ := hz
      have h1 : ocls = cls := h1
      have h2 : odict = d := h2
      have hv : odata = .fields vs := hv
      subst h1 h2 hv rx rt hcls hdd
      have J : PySem.W.InstAt s.heap a ⟨.ref D, some dx, .fields vs, osl⟩ D (some od) := ⟨p.1, rfl, rfl, hod⟩
      obtain ⟨_, its, rv, o, g1, g2, n, g3⟩ := (show ObjOk X.prog X.w H s.heap tp (.tup (rs.map V.ref)) from I.hok tp _ hT)
      have e3 := vals_refs rv
      subst e3
      obtain ⟨oc, od2, dt, sl⟩ := o
      simp only at g2 g3
      subst g2 g3
      refine PySem.W.kia_tup (kitx_excX C) I.kIn J g1 e (fun z => nomatch z) fun tk => ?_
      exact ⟨.bl b, H, I.kept fun x _ z => z, rfl, q⟩
theorem kit_none {K : PySem.W.Frag} {t : Value} : ∀ {cs : List Value}, (∀ c ∈ cs, PySem.W.kitOne K t c = some false) → PySem.W.kitAny K t cs = some false
  | [], _ => rfl
  | c :: cs, h => by
    unfold PySem.W.kitAny
    rw [h c List.mem_cons_self]
    exact kit_none fun x hx => h x (List.mem_cons_of_mem _ hx)
end LL
namespace LL
open PySem PySem.Spec PyProof.Rows L2
/-! ### methods called with keywords -/
def tMethN (C : Addr) (m : Str) (n k : Nat) (sp : Sp) (gV : List V → List V → List V) (E : L2.St → XK) (to : TE) (t tk : TA) : TE := fun σ H Q => to σ H fun x H1 => ∃ a dx fs, x = .ref a ∧ H1 a = some (.ins C dx fs) ∧ fs.lookup m = none ∧
  t σ H1 fun vs H2 => tk σ H2 fun zs H3 => vs.length = n ∧ zs.length = k ∧ sp (gV (x :: vs) zs) H3 Q (E σ)
section
variable {X : Cx} {CX : CXT} {k n : Nat} {f C : Addr} {fd : FuncData} {ps ks : List Str} {sp : Sp} {E : L2.St → XK} {m : Str} {p pos apos : Pos} {o e : Expr} {es : List Expr} {kws : List Keyword} {to : TE} {t tk : TA} {g : List Value → List Value → List Value} {gV : List V → List V → List V}
theorem run_fnNS {pins : List (Addr × Obj)} {σ : L2.St} {H : Hp} {s : Shared} {Q : VK} {us ws : List Value} {vs zs : List V} (F : FnOk X.prog X.w X.K X.mg X.base CX k f fd ps sp) (hr : Room k X.A) (hb : KBn X.K fd ps n ks g gV) (hx : PassesAt CX X σ (E σ))
    (I : Inv X pins σ H s) (r : Vals vs us) (rz : Vals zs ws) (l1 : vs.length = n) (l2 : zs.length = ks.length) (h : sp (gV vs zs) H Q (E σ)) : wpAny (model X.prog X.w) X.A (call (.ref f) us (ks.zip ws)) (EP X pins σ Q) X.xe s := by
  have r2 := hb.rel r rz
  refine wpAny_call (codeAny_mono (F.run X.A X.stack s H ⟨us, ks.zip ws⟩ (g us ws) (gV vs zs) Q (E σ) hr I.env0 (hb.to s us ws I.kIn (r.length.symm.trans l1) (rz.length.symm.trans l2)) r2 h) fun r s' hq => ?_)
  cases r with
  | error e => exact hx pins H s e s' I hq
  | ok fl =>
    cases fl with
    | ret u => exact I.after hq
    | next => exact False.elim hq
    | brk => exact False.elim hq
    | cont => exact False.elim hq
theorem pe_methN {pl : Sem Bool} (he : PE X o to) (c : Cls X.K C) (hm : Meth X.K C m f) (F : FnOk X.prog X.w X.K X.mg X.base CX k f fd ps sp) (hr : Room k X.A) (hb : KBn X.K fd ps (n + 1) ks g gV) (hx : ∀ σ, PassesAt CX X σ (E σ)) (ha : PA X (e :: es) t) (hkw : PK X kws tk)
    (hall : (backToKw pos (keywordEach kws X.env)).all (·.1.isSome) = true := by rfl) (hks : (backToKw pos (keywordEach kws X.env)).filterMap (·.1) = ks := by rfl)
    (hst : starEach (e :: es) X.env = (false, eval e X.env) :: starEach es X.env := by rfl)
    (hpl : ((backTo pos (starEach (e :: es) X.env)).any (·.1) || (backToKw pos (keywordEach kws X.env)).any (·.1.isNone)) = false := by rfl)
    (ht : eval (.Call (.Attribute o m apos) (e :: es) kws pos) X.env = (do
      let ov ← eval o X.env
      standAt apos.atName
      let (f, first) ← holding [ov] (getMethod ov m pl)
      callWith pos f first (backTo pos (starEach (e :: es) X.env)) (backToKw pos (keywordEach kws X.env))) := by rfl) :
    PE X (.Call (.Attribute o m apos) (e :: es) kws pos) (tMethN C m n ks.length sp gV E to t tk) := by
  refine ⟨fun pins s σ H Q I h => ?_⟩
  refine PySem.W.methodCall_KW (pl := pl) (thn (he.run pins s σ H _ I h) fun u s1 ⟨x, H1, I1, rx, a, dx, fs, ex, ea, l, q⟩ => ?_) ht
  subst ex
  obtain rfl : u = Value.ref a := rx
  refine getmeth_ok I1 ea c hm l ?_
  refine PySem.W.callWith_KW (first := [.ref a]) (h₀ := X.base) I.ok.mod.kin hm.kp hall (thn (ha.run pos pins s1 σ H1 _ I1 q) fun us s2 ⟨vs, H2, I2, r, q2⟩ => ?_) hpl hst
  refine thn (hkw.run pos pins s2 σ H2 _ I2 q2) fun ws s3 ⟨zs, H3, I3, rz, l1, l2, q3⟩ => ⟨I3.kIn, ?_⟩
  rw [hks]
  exact run_fnNS (us := .ref a :: us) (vs := .ref a :: vs) F hr hb (hx σ) I3 (.cons rfl r) rz (congrArg Nat.succ l1) l2 q3
end
end LL
namespace LL
/-! ### the program's tidy boxes: longest runs of days of one mask -/
theorem Chn.row {R : Nat → List Pr} {b e : Nat} {s : Strip} {ss : List Strip} (h : Chn R b (s :: ss) e) : s.2.2 = R b := by
  obtain ⟨h1, h2, h3, _, _⟩ := h
  rw [h1, h3 s.1 (Nat.le_refl _) h2]
/-- strips are told by their rows alone -/
theorem Chn.uniq {R : Nat → List Pr} : ∀ {ss tt : List Strip} {b e : Nat}, Chn R b ss e → Chn R b tt e → ss = tt
  | [], [], _, _, _, _ => rfl
  | [], t :: tt, b, e, h, g => by
    have h : b = e := h
    obtain ⟨g1, g2, _, _, g5⟩ := g
    have := g5.le
    omega
  | s :: ss, [], b, e, h, g => by
    have g : b = e := g
    obtain ⟨h1, h2, _, _, h5⟩ := h
    have := h5.le
    omega
  | s :: ss, t :: tt, b, e, h, g => by
    have rs := h.row
    have rt := g.row
    obtain ⟨h1, h2, h3, h4, h5⟩ := h
    obtain ⟨g1, g2, g3, g4, g5⟩ := g
    have no : ∀ {s t : Strip} {ss : List Strip}, s.2.2 = R b → t.2.2 = R b → t.1 = b → s.1 = b → s.1 < s.2.1 → (∀ d, t.1 ≤ d → d < t.2.1 → R d = t.2.2) → t.2.1 ≤ e → (∀ u, ss.head? = some u → u.2.2 ≠ s.2.2) → Chn R s.2.1 ss e → ¬ s.2.1 < t.2.1 := by
      intro s t ss es et t1 s1 s2 tr te nx ch l
      cases ss with
      | nil =>
        have ch : s.2.1 = e := ch
        omega
      | cons u ss =>
        have ru := ch.row
        have e1 := tr s.2.1 (by omega) l
        exact nx u rfl (by rw [ru, e1, et, es])
    have le1 := h5.le
    have le2 := g5.le
    have e2 : s.2.1 = t.2.1 := by
      have a := no (s := s) (t := t) rs rt g1.symm h1.symm h2 g3 le2 h4 h5
      have b := no (s := t) (t := s) rt rs h1.symm g1.symm g2 h3 le1 g4 g5
      omega
    have est : s = t := by
      obtain ⟨x, y, r⟩ := s
      obtain ⟨x', y', r'⟩ := t
      have a : b = x := h1
      have b' : b = x' := g1
      have c : y = y' := e2
      have d : r = r' := by rw [show r = R b from rs, show r' = R b from rt]
      rw [← a, ← b', c, d]
    rw [est]
    rw [e2] at h5
    rw [h5.uniq g5]
/-- the runs of places at which a list has equal things -/
def Alk (m : Nat → Nat) : Nat → List Pr → Nat → Prop
  | b, [], e => b = e
  | b, z :: r, e => b = z.1 ∧ z.1 < z.2 ∧ (∀ d, z.1 ≤ d → d < z.2 → m d = m z.1) ∧ (∀ y, r.head? = some y → m y.1 ≠ m z.1) ∧ Alk m z.2 r e
theorem Alk.le {m : Nat → Nat} : ∀ {r : List Pr} {b e : Nat}, Alk m b r e → b ≤ e
  | [], _, _, h => Nat.le_of_eq h
  | z :: r, b, e, ⟨h1, h2, _, _, h5⟩ => by
    have := h5.le
    omega
theorem Alk.snoc {m : Nat → Nat} : ∀ {r : List Pr} {b c e : Nat}, Alk m b r c → c < e → (∀ d, c ≤ d → d < e → m d = m c) → (∀ z, r.getLast? = some z → m c ≠ m z.1) → Alk m b (r ++ [(c, e)]) e
  | [], b, c, e, h, l, q, _ => by
    have h : b = c := h
    subst h
    exact ⟨rfl, l, q, (fun y hy => nomatch hy), rfl⟩
  | z :: r, b, c, e, ⟨h1, h2, h3, h4, h5⟩, l, q, n => by
    refine ⟨h1, h2, h3, fun y hy => ?_, h5.snoc l q fun y hy => n y ?_⟩
    · cases r with
      | nil =>
        obtain rfl : (c, e) = y := Option.some.inj hy
        exact n z rfl
      | cons x r => exact h4 y hy
    · cases r with
      | nil => cases hy
      | cons x r => exact hy
/-- as strips, where unlike things have unlike rows -/
theorem Alk.chn {m : Nat → Nat} {R : Nat → List Pr} {top : Nat} (same : ∀ d u, d < top → u < top → (m d = m u ↔ R d = R u)) : ∀ {r : List Pr} {b e : Nat}, e ≤ top → Alk m b r e → Chn R b (r.map fun z => (z.1, z.2, R z.1)) e
  | [], _, _, _, h => h
  | z :: r, b, e, le, ⟨h1, h2, h3, h4, h5⟩ => by
    have l2 := h5.le
    refine ⟨h1, h2, fun d l u => (same d z.1 (by have u : d < z.2 := u; omega) (by omega)).mp (h3 d l u), fun t ht => ?_, Alk.chn same le h5⟩
    cases r with
    | nil => cases ht
    | cons y r =>
      obtain rfl : (y.1, y.2, R y.1) = t := Option.some.inj ht
      obtain ⟨g1, g2, _, _, g5⟩ := h5
      have := g5.le
      exact fun z' => h4 y rfl ((same y.1 z.1 (by omega) (by omega)).mpr z')
theorem Alk.strips {m : Nat → Nat} {R : Nat → List Pr} {D : Nat} (same : ∀ d u, d < D → u < D → (m d = m u ↔ R d = R u)) {r : List Pr} (h : Alk m 0 r D) : (r.map fun z => (z.1, z.2, R z.1)) = stripsS R D :=
  (h.chn same (Nat.le_refl D)).uniq (strips_ok R D)
/-- a mask below 2 ** T and the row of its numbers tell one another -/
theorem mask_row {m n T : Nat} (hT : T ≤ 400) (hm : m < 2 ^ T) (hn : n < 2 ^ T) : m = n ↔ rowS (fun t => m.testBit t) T = rowS (fun t => n.testBit t) T := by
  constructor
  · rintro rfl
    rfl
  · intro e
    apply Nat.eq_of_testBit_eq
    intro t
    by_cases l : t < T
    · have a := (rowS_ok (fun t => m.testBit t) T hT).2.1 t
      have b := (rowS_ok (fun t => n.testBit t) T hT).2.1 t
      rw [e, b] at a
      simpa [l] using a.symm
    · have p : 2 ^ T ≤ 2 ^ t := Nat.pow_le_pow_right (by decide) (by omega)
      rw [Nat.testBit_lt_two_pow (Nat.lt_of_lt_of_le hm p), Nat.testBit_lt_two_pow (Nat.lt_of_lt_of_le hn p)]
/-- the boxes of one key's row of masks -/
def rowBoxes {κ : Type} (k : κ) (m : Nat → Nat) (T : Nat) (r : List Pr) : List (BoxT κ) := r.flatMap fun z => (rowS (fun t => (m z.1).testBit t) T).map fun y => (k, z.1, z.2, y.1, y.2)
theorem rowBoxes_tidy {κ : Type} (k : κ) {m : Nat → Nat} {D T : Nat} (hT : T ≤ 400) (top : ∀ d, d < D → m d < 2 ^ T) {r : List Pr} (h : Alk m 0 r D) : rowBoxes k m T r = boxesK k (stripsS (fun d => rowS (fun t => (m d).testBit t) T) D) := by
  have e := h.strips (R := fun d => rowS (fun t => (m d).testBit t) T) fun d u hd hu => mask_row hT (top d hd) (top u hu)
  rw [← e]
  unfold rowBoxes boxesK
  rw [List.flatMap_map]
/-- the boxes of a whole table: the tidy boxes of its points -/
theorem table_tidy {κ : Type} [DecidableEq κ] (m : κ → Nat → Nat) (P : κ → Nat → Nat → Bool) {D T : Nat} (hT : T ≤ 400) (keys : List κ) (top : ∀ k ∈ keys, ∀ d, d < D → m k d < 2 ^ T) (pts : ∀ k ∈ keys, ∀ d t, d < D → t < T → (m k d).testBit t = P k d t)
    (r : κ → List Pr) (h : ∀ k ∈ keys, Alk (m k) 0 (r k) D) : (keys.flatMap fun k => rowBoxes k (m k) T (r k)) = tidyB P D T keys := by
  unfold tidyB
  induction keys with
  | nil => rfl
  | cons k ks ih =>
    rw [List.flatMap_cons, List.flatMap_cons, ih (fun y hy => top y (List.mem_cons_of_mem _ hy)) (fun y hy => pts y (List.mem_cons_of_mem _ hy)) (fun y hy => h y (List.mem_cons_of_mem _ hy)), rowBoxes_tidy k hT (top k List.mem_cons_self) (h k List.mem_cons_self)]
    congr 2
    have : ∀ n, n ≤ D → stripsS (fun d => rowS (fun t => (m k d).testBit t) T) n = stripsS (fun d => rowS (P k d) T) n := by
      intro n
      induction n with
      | zero => exact fun _ => rfl
      | succ n ihn =>
        intro l
        have e : rowS (fun t => (m k n).testBit t) T = rowS (P k n) T := rowS_congr fun t ht => pts k List.mem_cons_self n t (by omega) ht
        simp only [stripsS, ihn (by omega), e]
    exact this D (Nat.le_refl D)
end LL
namespace LL
open PySem PySem.Spec PyProof.Rows L2
def top (i : Nat) : Stmt := PySem.Challenge.pw_leastlore_k06_disks_and_power.main.body.getD i (.Pass ⟨0, 0, 0, 0⟩)
abbrev sciswhole_st : Stmt := top 7
abbrev sciswhole_N : List Str := ["thing"]
theorem sciswhole : FnScope sciswhole_N ["thing"] (defScope sciswhole_st) := ⟨rfl, rfl, rfl, by decide +kernel, rfl, by decide +kernel, by decide +kernel⟩
abbrev sciswithin_st : Stmt := top 8
abbrev sciswithin_N : List Str := ["thing", "low", "high"]
theorem sciswithin : FnScope sciswithin_N ["thing", "low", "high"] (defScope sciswithin_st) := ⟨rfl, rfl, rfl, by decide +kernel, rfl, by decide +kernel, by decide +kernel⟩
abbrev scissmall_st : Stmt := top 11
abbrev scissmall_N : List Str := ["thing"]
theorem scissmall : FnScope scissmall_N ["thing"] (defScope scissmall_st) := ⟨rfl, rfl, rfl, by decide +kernel, rfl, by decide +kernel, by decide +kernel⟩
abbrev scispage_st : Stmt := top 15
abbrev scispage_N : List Str := ["thing"]
theorem scispage : FnScope scispage_N ["thing"] (defScope scispage_st) := ⟨rfl, rfl, rfl, by decide +kernel, rfl, by decide +kernel, by decide +kernel⟩
abbrev scblankpage_st : Stmt := top 16
abbrev scblankpage_N : List Str := []
theorem scblankpage : FnScope scblankpage_N [] (defScope scblankpage_st) := ⟨rfl, rfl, rfl, by decide +kernel, rfl, by decide +kernel, by decide +kernel⟩
abbrev scarepages_st : Stmt := top 21
abbrev scarepages_N : List Str := ["thing"]
theorem scarepages : FnScope scarepages_N ["thing"] (defScope scarepages_st) := ⟨rfl, rfl, rfl, by decide +kernel, rfl, by decide +kernel, by decide +kernel⟩
abbrev scdiskof_st : Stmt := top 22
abbrev scdiskof_N : List Str := ["pages", "disk", "number", "page"]
theorem scdiskof : FnScope scdiskof_N ["pages"] (defScope scdiskof_st) := ⟨rfl, rfl, rfl, by decide +kernel, rfl, by decide +kernel, by decide +kernel⟩
abbrev scLcellat_st : Stmt := top 24
abbrev scLcellat_N : List Str := ["_law_script", "_law_k"]
theorem scLcellat : FnScope scLcellat_N ["_law_script", "_law_k"] (defScope scLcellat_st) := ⟨rfl, rfl, rfl, by decide +kernel, rfl, by decide +kernel, by decide +kernel⟩
abbrev scLbox_st : Stmt := top 25
abbrev scLbox_N : List Str := ["_law_cell"]
theorem scLbox : FnScope scLbox_N ["_law_cell"] (defScope scLbox_st) := ⟨rfl, rfl, rfl, by decide +kernel, rfl, by decide +kernel, by decide +kernel⟩
abbrev scLtake_st : Stmt := top 26
abbrev scLtake_N : List Str := ["_law_box_here", "_law_many_here", "_law_digit", "_law_number"]
theorem scLtake : FnScope scLtake_N ["_law_box_here", "_law_many_here"] (defScope scLtake_st) := ⟨rfl, rfl, rfl, by decide +kernel, rfl, by decide +kernel, by decide +kernel⟩
abbrev scLcrossed_st : Stmt := top 27
abbrev scLcrossed_N : List Str := ["_law_one", "_law_other"]
theorem scLcrossed : FnScope scLcrossed_N ["_law_one", "_law_other"] (defScope scLcrossed_st) := ⟨rfl, rfl, rfl, by decide +kernel, rfl, by decide +kernel, by decide +kernel⟩
abbrev scLcheck_st : Stmt := top 28
abbrev scLcheck_N : List Str := ["_law_numbers_here", "_law_check_here", "_law_number"]
theorem scLcheck : FnScope scLcheck_N ["_law_numbers_here"] (defScope scLcheck_st) := ⟨rfl, rfl, rfl, by decide +kernel, rfl, by decide +kernel, by decide +kernel⟩
abbrev scLword_st : Stmt := top 29
abbrev scLword_N : List Str := ["_law_box_here", "_law_some"]
theorem scLword : FnScope scLword_N ["_law_box_here"] (defScope scLword_st) := ⟨rfl, rfl, rfl, by decide +kernel, rfl, by decide +kernel, by decide +kernel⟩
abbrev scLroot_st : Stmt := top 31
abbrev scLroot_N : List Str := ["_law_count_here", "_law_used_here", "_law_words", "_law_at", "_law_number", "_law_numbers_here"]
theorem scLroot : FnScope scLroot_N ["_law_count_here", "_law_used_here"] (defScope scLroot_st) := ⟨rfl, rfl, rfl, by decide +kernel, rfl, by decide +kernel, by decide +kernel⟩
abbrev scLused_st : Stmt := top 32
abbrev scLused_N : List Str := ["_law_box_here", "_law_many_here", "_law_some", "_law_number", "_law_found", "_law_k"]
theorem scLused : FnScope scLused_N ["_law_box_here", "_law_many_here"] (defScope scLused_st) := ⟨rfl, rfl, rfl, by decide +kernel, rfl, by decide +kernel, by decide +kernel⟩
abbrev scLcount_st : Stmt := top 33
abbrev scLcount_N : List Str := ["_law_box_here"]
theorem scLcount : FnScope scLcount_N ["_law_box_here"] (defScope scLcount_st) := ⟨rfl, rfl, rfl, by decide +kernel, rfl, by decide +kernel, by decide +kernel⟩
abbrev scLmany_st : Stmt := top 34
abbrev scLmany_N : List Str := ["_law_box_here"]
theorem scLmany : FnScope scLmany_N ["_law_box_here"] (defScope scLmany_st) := ⟨rfl, rfl, rfl, by decide +kernel, rfl, by decide +kernel, by decide +kernel⟩
abbrev scLnumbers_st : Stmt := top 35
abbrev scLnumbers_N : List Str := ["_law_box_here", "_law_way", "_law_numbers_here", "_law_k"]
theorem scLnumbers : FnScope scLnumbers_N ["_law_box_here"] (defScope scLnumbers_st) := ⟨rfl, rfl, rfl, by decide +kernel, rfl, by decide +kernel, by decide +kernel⟩
abbrev scLpower_st : Stmt := top 36
abbrev scLpower_N : List Str := ["_law_box_here", "_law_many_here"]
theorem scLpower : FnScope scLpower_N ["_law_box_here"] (defScope scLpower_st) := ⟨rfl, rfl, rfl, by decide +kernel, rfl, by decide +kernel, by decide +kernel⟩
abbrev scLpowerright_st : Stmt := top 37
abbrev scLpowerright_N : List Str := ["_law_supply", "_law_real", "_law_many_here", "_law_spent", "_law_left"]
theorem scLpowerright : FnScope scLpowerright_N ["_law_supply"] (defScope scLpowerright_st) := ⟨rfl, rfl, rfl, by decide +kernel, rfl, by decide +kernel, by decide +kernel⟩
abbrev scLwritten_st : Stmt := top 38
abbrev scLwritten_N : List Str := ["_law_disk", "_law_number", "_law_numbers_here", "_law_real", "_law_told", "e"]
theorem scLwritten : FnScope scLwritten_N ["_law_disk", "_law_number", "_law_numbers_here", "_law_real"] (defScope scLwritten_st) := ⟨rfl, rfl, rfl, by decide +kernel, rfl, by decide +kernel, by decide +kernel⟩
abbrev scLstep_st : Stmt := top 39
abbrev scLstep_N : List Str := ["_law_box_here", "_law_disk", "_law_sheets", "_law_supply", "_law_number", "_law_numbers_here", "_law_many_here", "_law_due"]
theorem scLstep : FnScope scLstep_N ["_law_box_here", "_law_disk", "_law_sheets", "_law_supply"] (defScope scLstep_st) := ⟨rfl, rfl, rfl, by decide +kernel, rfl, by decide +kernel, by decide +kernel⟩
abbrev scLstands_st : Stmt := top 40
abbrev scLstands_N : List Str := ["_law_disk", "_law_sheets", "_law_pages", "_law_sheet"]
theorem scLstands : FnScope scLstands_N ["_law_disk", "_law_sheets"] (defScope scLstands_st) := ⟨rfl, rfl, rfl, by decide +kernel, rfl, by decide +kernel, by decide +kernel⟩
abbrev scLagain_st : Stmt := top 41
abbrev scLagain_N : List Str := ["_law_box_here", "_law_disk", "_law_sheets", "_law_handed", "_law_other", "_law_spare"]
theorem scLagain : FnScope scLagain_N ["_law_box_here", "_law_disk", "_law_sheets"] (defScope scLagain_st) := ⟨rfl, rfl, rfl, by decide +kernel, rfl, by decide +kernel, by decide +kernel⟩
abbrev scLcase_st : Stmt := top 42
abbrev scLcase_N : List Str := ["_law_box_here", "_law_many_here", "_law_disks", "_law_sheets", "_law_disk", "_law_k", "_law_supply", "_law_at"]
theorem scLcase : FnScope scLcase_N ["_law_box_here"] (defScope scLcase_st) := ⟨rfl, rfl, rfl, by decide +kernel, rfl, by decide +kernel, by decide +kernel⟩
abbrev sclaw_st : Stmt := top 43
abbrev sclaw_N : List Str := ["_law_script", "_law_k"]
theorem sclaw : FnScope sclaw_N ["_law_script"] (defScope sclaw_st) := ⟨rfl, rfl, rfl, by decide +kernel, rfl, by decide +kernel, by decide +kernel⟩
abbrev scNoNumberinit_st : Stmt := inClass (top 2) 0
abbrev scNoNumberinit_N : List Str := ["self", "found"]
theorem scNoNumberinit : FnScope scNoNumberinit_N ["self", "found"] (defScope scNoNumberinit_st) := ⟨rfl, rfl, rfl, by decide +kernel, rfl, by decide +kernel, by decide +kernel⟩
abbrev scNoDiskinit_st : Stmt := inClass (top 3) 0
abbrev scNoDiskinit_N : List Str := ["self", "found"]
theorem scNoDiskinit : FnScope scNoDiskinit_N ["self", "found"] (defScope scNoDiskinit_st) := ⟨rfl, rfl, rfl, by decide +kernel, rfl, by decide +kernel, by decide +kernel⟩
abbrev scNoPageinit_st : Stmt := inClass (top 4) 0
abbrev scNoPageinit_N : List Str := ["self", "found"]
theorem scNoPageinit : FnScope scNoPageinit_N ["self", "found"] (defScope scNoPageinit_st) := ⟨rfl, rfl, rfl, by decide +kernel, rfl, by decide +kernel, by decide +kernel⟩
abbrev scDarkinit_st : Stmt := inClass (top 5) 0
abbrev scDarkinit_N : List Str := ["self", "many"]
theorem scDarkinit : FnScope scDarkinit_N ["self", "many"] (defScope scDarkinit_st) := ⟨rfl, rfl, rfl, by decide +kernel, rfl, by decide +kernel, by decide +kernel⟩
abbrev scPowerinit_st : Stmt := inClass (top 19) 0
abbrev scPowerinit_N : List Str := ["self", "many"]
theorem scPowerinit : FnScope scPowerinit_N ["self", "many"] (defScope scPowerinit_st) := ⟨rfl, rfl, rfl, by decide +kernel, rfl, by decide +kernel, by decide +kernel⟩
abbrev scPowerleftover_st : Stmt := inClass (top 19) 1
abbrev scPowerleftover_N : List Str := ["self"]
theorem scPowerleftover : FnScope scPowerleftover_N ["self"] (defScope scPowerleftover_st) := ⟨rfl, rfl, rfl, by decide +kernel, rfl, by decide +kernel, by decide +kernel⟩
abbrev scPowerwritten_st : Stmt := inClass (top 19) 2
abbrev scPowerwritten_N : List Str := ["self"]
theorem scPowerwritten : FnScope scPowerwritten_N ["self"] (defScope scPowerwritten_st) := ⟨rfl, rfl, rfl, by decide +kernel, rfl, by decide +kernel, by decide +kernel⟩
abbrev scPowerspend_st : Stmt := inClass (top 19) 3
abbrev scPowerspend_N : List Str := ["self", "most", "many"]
theorem scPowerspend : FnScope scPowerspend_N ["self", "most"] (defScope scPowerspend_st) := ⟨rfl, rfl, rfl, by decide +kernel, rfl, by decide +kernel, by decide +kernel⟩
abbrev scDiskinit_st : Stmt := inClass (top 20) 0
abbrev scDiskinit_N : List Str := ["self", "many"]
theorem scDiskinit : FnScope scDiskinit_N ["self", "many"] (defScope scDiskinit_st) := ⟨rfl, rfl, rfl, by decide +kernel, rfl, by decide +kernel, by decide +kernel⟩
abbrev scDiskhowmany_st : Stmt := inClass (top 20) 1
abbrev scDiskhowmany_N : List Str := ["self"]
theorem scDiskhowmany : FnScope scDiskhowmany_N ["self"] (defScope scDiskhowmany_st) := ⟨rfl, rfl, rfl, by decide +kernel, rfl, by decide +kernel, by decide +kernel⟩
abbrev scDiskpages_st : Stmt := inClass (top 20) 2
abbrev scDiskpages_N : List Str := ["self"]
theorem scDiskpages : FnScope scDiskpages_N ["self"] (defScope scDiskpages_st) := ⟨rfl, rfl, rfl, by decide +kernel, rfl, by decide +kernel, by decide +kernel⟩
abbrev scDiskpageat_st : Stmt := inClass (top 20) 3
abbrev scDiskpageat_N : List Str := ["self", "number"]
theorem scDiskpageat : FnScope scDiskpageat_N ["self", "number"] (defScope scDiskpageat_st) := ⟨rfl, rfl, rfl, by decide +kernel, rfl, by decide +kernel, by decide +kernel⟩
abbrev scDiskwrite_st : Stmt := inClass (top 20) 4
abbrev scDiskwrite_N : List Str := ["self", "number", "numbers", "power", "old", "mine", "many"]
theorem scDiskwrite : FnScope scDiskwrite_N ["self", "number", "numbers", "power"] (defScope scDiskwrite_st) := ⟨rfl, rfl, rfl, by decide +kernel, rfl, by decide +kernel, by decide +kernel⟩
/-- where the defs stand -/
structure Defs (K : PySem.W.Frag) (mg : Str → Option Value) where
  is_whole : Dn K mg "is_whole" sciswhole_st ["thing"]
  is_within : Dn K mg "is_within" sciswithin_st ["thing", "low", "high"]
  is_small : Dn K mg "is_small" scissmall_st ["thing"]
  is_page : Dn K mg "is_page" scispage_st ["thing"]
  blank_page : Dn K mg "blank_page" scblankpage_st []
  are_pages : Dn K mg "are_pages" scarepages_st ["thing"]
  disk_of : Dn K mg "disk_of" scdiskof_st ["pages"]
  _law_cell_at : Dn K mg "_law_cell_at" scLcellat_st ["_law_script", "_law_k"]
  _law_box : Dn K mg "_law_box" scLbox_st ["_law_cell"]
  _law_take : Dn K mg "_law_take" scLtake_st ["_law_box_here", "_law_many_here"]
  _law_crossed : Dn K mg "_law_crossed" scLcrossed_st ["_law_one", "_law_other"]
  _law_check : Dn K mg "_law_check" scLcheck_st ["_law_numbers_here"]
  _law_word : Dn K mg "_law_word" scLword_st ["_law_box_here"]
  _law_root : Dn K mg "_law_root" scLroot_st ["_law_count_here", "_law_used_here"]
  _law_used : Dn K mg "_law_used" scLused_st ["_law_box_here", "_law_many_here"]
  _law_count : Dn K mg "_law_count" scLcount_st ["_law_box_here"]
  _law_many : Dn K mg "_law_many" scLmany_st ["_law_box_here"]
  _law_numbers : Dn K mg "_law_numbers" scLnumbers_st ["_law_box_here"]
  _law_power : Dn K mg "_law_power" scLpower_st ["_law_box_here"]
  _law_power_right : Dn K mg "_law_power_right" scLpowerright_st ["_law_supply"]
  _law_written : Dn K mg "_law_written" scLwritten_st ["_law_disk", "_law_number", "_law_numbers_here", "_law_real"]
  _law_step : Dn K mg "_law_step" scLstep_st ["_law_box_here", "_law_disk", "_law_sheets", "_law_supply"]
  _law_stands : Dn K mg "_law_stands" scLstands_st ["_law_disk", "_law_sheets"]
  _law_again : Dn K mg "_law_again" scLagain_st ["_law_box_here", "_law_disk", "_law_sheets"]
  _law_case : Dn K mg "_law_case" scLcase_st ["_law_box_here"]
  law : Dn K mg "law" sclaw_st ["_law_script"]
  erNoNumber : ErC K mg "NoNumber" "found" scNoNumberinit_st
  erNoDisk : ErC K mg "NoDisk" "found" scNoDiskinit_st
  erNoPage : ErC K mg "NoPage" "found" scNoPageinit_st
  erDark : ErC K mg "Dark" "many" scDarkinit_st
  cPower : Addr
  cDisk : Addr
  Power___init__ : MnD K cPower "__init__" "Power.__init__" scPowerinit_st ["self", "many"]
  Power_left_over : Mn K cPower "left_over" "Power.left_over" scPowerleftover_st ["self"]
  Power_written : Mn K cPower "written" "Power.written" scPowerwritten_st ["self"]
  Power_spend : Mn K cPower "spend" "Power.spend" scPowerspend_st ["self", "most"]
  Disk___init__ : Mn K cDisk "__init__" "Disk.__init__" scDiskinit_st ["self", "many"]
  Disk_how_many : Mn K cDisk "how_many" "Disk.how_many" scDiskhowmany_st ["self"]
  Disk_pages : Mn K cDisk "pages" "Disk.pages" scDiskpages_st ["self"]
  Disk_page_at : Mn K cDisk "page_at" "Disk.page_at" scDiskpageat_st ["self", "number"]
  Disk_write : MnD K cDisk "write" "Disk.write" scDiskwrite_st ["self", "number", "numbers", "power"]
  clPower : Cls K cPower
  mkPower : Mk K cPower Power___init__.f
  g_Power : mg "Power" = some (.ref cPower)
  n_left : NoAttr K cPower "_left"
  n_spent : NoAttr K cPower "_spent"
  clDisk : Cls K cDisk
  mkDisk : Mk K cDisk Disk___init__.f
  g_Disk : mg "Disk" = some (.ref cDisk)
  n_pages : NoAttr K cDisk "_pages"
  Disk_write_k : KBn K Disk_write.fd ["self", "number", "numbers", "power"] 3 ["power"] (fun us ws => us ++ ws) (fun vs zs => vs ++ zs)
  lore : ExN mg "LoreError"
  excNoNumber : ExcC K erNoNumber.C
  excNoDisk : ExcC K erNoDisk.C
  excNoPage : ExcC K erNoPage.C
  excDark : ExcC K erDark.C
  k_NoNumber_lore : PySem.W.kitOne K (.ref erNoNumber.C) (.ref lore.C) = some true
  k_NoNumber_NoDisk : PySem.W.kitOne K (.ref erNoNumber.C) (.ref erNoDisk.C) = some false
  x_NoNumber_NoDisk : PySem.W.exmOne K (.ref erNoNumber.C) (.ref erNoDisk.C) = some false
  k_NoNumber_NoPage : PySem.W.kitOne K (.ref erNoNumber.C) (.ref erNoPage.C) = some false
  x_NoNumber_NoPage : PySem.W.exmOne K (.ref erNoNumber.C) (.ref erNoPage.C) = some false
  k_NoNumber_Dark : PySem.W.kitOne K (.ref erNoNumber.C) (.ref erDark.C) = some false
  x_NoNumber_Dark : PySem.W.exmOne K (.ref erNoNumber.C) (.ref erDark.C) = some false
  k_NoDisk_lore : PySem.W.kitOne K (.ref erNoDisk.C) (.ref lore.C) = some true
  k_NoDisk_NoNumber : PySem.W.kitOne K (.ref erNoDisk.C) (.ref erNoNumber.C) = some false
  x_NoDisk_NoNumber : PySem.W.exmOne K (.ref erNoDisk.C) (.ref erNoNumber.C) = some false
  k_NoDisk_NoPage : PySem.W.kitOne K (.ref erNoDisk.C) (.ref erNoPage.C) = some false
  x_NoDisk_NoPage : PySem.W.exmOne K (.ref erNoDisk.C) (.ref erNoPage.C) = some false
  k_NoDisk_Dark : PySem.W.kitOne K (.ref erNoDisk.C) (.ref erDark.C) = some false
  x_NoDisk_Dark : PySem.W.exmOne K (.ref erNoDisk.C) (.ref erDark.C) = some false
  k_NoPage_lore : PySem.W.kitOne K (.ref erNoPage.C) (.ref lore.C) = some true
  k_NoPage_NoNumber : PySem.W.kitOne K (.ref erNoPage.C) (.ref erNoNumber.C) = some false
  x_NoPage_NoNumber : PySem.W.exmOne K (.ref erNoPage.C) (.ref erNoNumber.C) = some false
  k_NoPage_NoDisk : PySem.W.kitOne K (.ref erNoPage.C) (.ref erNoDisk.C) = some false
  x_NoPage_NoDisk : PySem.W.exmOne K (.ref erNoPage.C) (.ref erNoDisk.C) = some false
  k_NoPage_Dark : PySem.W.kitOne K (.ref erNoPage.C) (.ref erDark.C) = some false
  x_NoPage_Dark : PySem.W.exmOne K (.ref erNoPage.C) (.ref erDark.C) = some false
  k_Dark_lore : PySem.W.kitOne K (.ref erDark.C) (.ref lore.C) = some true
  k_Dark_NoNumber : PySem.W.kitOne K (.ref erDark.C) (.ref erNoNumber.C) = some false
  x_Dark_NoNumber : PySem.W.exmOne K (.ref erDark.C) (.ref erNoNumber.C) = some false
  k_Dark_NoDisk : PySem.W.kitOne K (.ref erDark.C) (.ref erNoDisk.C) = some false
  x_Dark_NoDisk : PySem.W.exmOne K (.ref erDark.C) (.ref erNoDisk.C) = some false
  k_Dark_NoPage : PySem.W.kitOne K (.ref erDark.C) (.ref erNoPage.C) = some false
  x_Dark_NoPage : PySem.W.exmOne K (.ref erDark.C) (.ref erNoPage.C) = some false
/-- what else the names of the top hold -/
structure Tx (K : PySem.W.Frag) (mg : Str → Option Value) where
  b_all : mg "all" = none
  b_enumerate : mg "enumerate" = none
  b_range : mg "range" = none
  b_tuple : mg "tuple" = none
  b_sorted : mg "sorted" = none
  b_isinstance : mg "isinstance" = none
  b_int : mg "int" = none
  b_len : mg "len" = none
  b_list : mg "list" = none
  b_bool : mg "bool" = none
  b_min : mg "min" = none
  b_repr : mg "repr" = none
  b_max : mg "max" = none
  b_sum : mg "sum" = none
  t_MOST_NUMBER : Tok
  g_MOST_NUMBER : mg "MOST_NUMBER" = some (.int 4294967295 t_MOST_NUMBER)
  t_PAGE_SIZE : Tok
  g_PAGE_SIZE : mg "PAGE_SIZE" = some (.int 20 t_PAGE_SIZE)
  t_MOST_PAGES : Tok
  g_MOST_PAGES : mg "MOST_PAGES" = some (.int 512 t_MOST_PAGES)
  t_LEAST_PAGES : Tok
  g_LEAST_PAGES : mg "LEAST_PAGES" = some (.int 4 t_LEAST_PAGES)
def tx_mk {K : PySem.W.Frag} {mg : Str → Option Value} {t_MOST_NUMBER t_PAGE_SIZE t_MOST_PAGES t_LEAST_PAGES : Tok} (b_all : mg "all" = none) (b_enumerate : mg "enumerate" = none) (b_range : mg "range" = none) (b_tuple : mg "tuple" = none) (b_sorted : mg "sorted" = none) (b_isinstance : mg "isinstance" = none) (b_int : mg "int" = none) (b_len : mg "len" = none) (b_list : mg "list" = none) (b_bool : mg "bool" = none) (b_min : mg "min" = none) (b_repr : mg "repr" = none) (b_max : mg "max" = none) (b_sum : mg "sum" = none)
    (g_MOST_NUMBER : mg "MOST_NUMBER" = some (.int 4294967295 t_MOST_NUMBER)) (g_PAGE_SIZE : mg "PAGE_SIZE" = some (.int 20 t_PAGE_SIZE)) (g_MOST_PAGES : mg "MOST_PAGES" = some (.int 512 t_MOST_PAGES)) (g_LEAST_PAGES : mg "LEAST_PAGES" = some (.int 4 t_LEAST_PAGES)) : Tx K mg := ⟨b_all, b_enumerate, b_range, b_tuple, b_sorted, b_isinstance, b_int, b_len, b_list, b_bool, b_min, b_repr, b_max, b_sum, t_MOST_NUMBER, g_MOST_NUMBER, t_PAGE_SIZE, g_PAGE_SIZE, t_MOST_PAGES, g_MOST_PAGES, t_LEAST_PAGES, g_LEAST_PAGES⟩
section
variable {P : Program} {w : World} {K : PySem.W.Frag} {mg : Str → Option Value} {base : Heap}
def spWhole (K : PySem.W.Frag) : Sp := fun vs H Q _ => ∃ x, vs = [x] ∧ Thing K H x ∧ Q (.bl (isInt x)) H
theorem ok_is_whole (D : Defs K mg) (T : Tx K mg) : FnOk P w K mg base CX0 1 D.is_whole.f D.is_whole.fd ["thing"] (spWhole K) := by
  refine D.is_whole.F.ok sciswhole (fun vs H Q E h => ?_) (fun cdv A outer s H vs Q E hr h => ?_)
  · obtain ⟨x, rfl, _⟩ := h
    rfl
  · obtain ⟨x, rfl, th, k⟩ := h
    refine ⟨_, (pss_one (ps_ret (pe_and (pe_callB call_is_int (by rfl) T.b_isinstance (by decide +kernel) (pa_cons (pv 0) (pa_cons (pe_bltn (v := .ty "int") (u := .type "int") (by rfl) T.b_int (by decide +kernel) rfl) pa_nil))) (pe_one (pe_not (pe_callB call_is_bool (by rfl) T.b_isinstance (by decide +kernel) (pa_cons (pv 0) (pa_cons (pe_bltn (v := .ty "bool") (u := .type "bool") (by rfl) T.b_bool (by decide +kernel) rfl) pa_nil)))))))), ?_⟩
    refine ⟨_, rfl, _, rfl, th, _, rfl, ?_⟩
    cases th with
    | int i => exact iteT ⟨_, rfl, _, rfl, .int i, _, rfl, k⟩
    | bl b => exact iteT ⟨_, rfl, _, rfl, .bl b, _, rfl, k⟩
    | _ => exact iteF k
def spWithin (K : PySem.W.Frag) : Sp := fun vs H Q _ => ∃ x lo hi, vs = [x, .int lo, .int hi] ∧ Thing K H x ∧ Q (.bl (within x lo hi)) H
theorem ok_is_within (D : Defs K mg) (T : Tx K mg) : FnOk P w K mg base CX0 2 D.is_within.f D.is_within.fd ["thing", "low", "high"] (spWithin K) := by
  have Gis_whole := ok_is_whole (P := P) (w := w) (base := base) D T
  refine D.is_within.F.ok sciswithin (fun vs H Q E h => ?_) (fun cdv A outer s H vs Q E hr h => ?_)
  · obtain ⟨x, lo, hi, rfl, _⟩ := h
    rfl
  · obtain ⟨x, lo, hi, rfl, th, k⟩ := h
    refine ⟨_, (pss_one (ps_ret (pe_and (pcall D.is_whole Gis_whole hr (by decide) (by rfl) (pa_cons (pv 0) pa_nil)) (pe_one (pe_chain op_le op_le (pv 1) (pv 0) (pv 2)))))), ?_⟩
    refine ⟨x, rfl, x, rfl, th, ⟨_, rfl, ?_⟩⟩
    cases th with
    | int i =>
      refine iteT ⟨_, rfl, _, rfl, _, _, rfl, rfl, _, rfl, ?_⟩
      by_cases h1 : lo ≤ i
      · rw [decide_eq_true h1]
        refine iteT ⟨_, rfl, _, _, rfl, rfl, ?_⟩
        have e : within (.int i) lo hi = decide (i ≤ hi) := by simp [within, h1]
        rw [e] at k
        exact k
      · rw [decide_eq_false h1]
        have e : within (.int i) lo hi = false := by simp [within, h1]
        rw [e] at k
        exact iteF k
    | _ => exact iteF k
def spSmall (K : PySem.W.Frag) : Sp := fun vs H Q _ => ∃ x, vs = [x] ∧ Thing K H x ∧ Q (.bl (within x 0 4294967295)) H
theorem ok_is_small (D : Defs K mg) (T : Tx K mg) : FnOk P w K mg base CX0 3 D.is_small.f D.is_small.fd ["thing"] (spSmall K) := by
  have Gis_within := ok_is_within (P := P) (w := w) (base := base) D T
  refine D.is_small.F.ok scissmall (fun vs H Q E h => ?_) (fun cdv A outer s H vs Q E hr h => ?_)
  · obtain ⟨x, rfl, _⟩ := h
    rfl
  · obtain ⟨x, rfl, th, k⟩ := h
    refine ⟨_, (pss_one (ps_ret (pcall D.is_within Gis_within hr (by decide) (by rfl) (pa_cons (pv 0) (pa_cons pe_int (pa_cons (pe_glob (v := .int 4294967295) (by rfl) T.g_MOST_NUMBER ⟨_, rfl⟩) pa_nil)))))), ?_⟩
    exact ⟨_, rfl, _, _, _, rfl, th, k⟩
theorem within_nat {n : Nat} (h : n < cB) : within (.int (n : Int)) 0 4294967295 = true := by
  rw [cB_eq] at h
  show (decide ((0 : Int) ≤ (n : Int)) && decide ((n : Int) ≤ 4294967295)) = true
  rw [decide_eq_true (Int.natCast_nonneg n), decide_eq_true (by omega)]
  rfl
theorem isSeq_of {K : PySem.W.Frag} {H : Hp} {a : Addr} {xs : List V} (h : H a = some (.lst xs) ∨ H a = some (.tup xs)) : IsSeq K H (.ref a) true := by
  rcases h with h | h
  · exact .lst (tyX_l h)
  · exact .tup (tyX_t h)
/-- an own error is raised with the thing v -/
def RaiE (C : Addr) (v : V) (H : Hp) (E : XK) (fl : Str := "found") : Prop := ∀ d H', Exd H H' → H d = none → H' d = some (.xd [(fl, v)]) → E (.ref C) (some d) H'
theorem ok_NoNumber___init__ (D : Defs K mg) (T : Tx K mg) : FnOk P w K mg base CX0 1 D.erNoNumber.f D.erNoNumber.fd ["self", "found"] (spInitE K "found") := by
  refine D.erNoNumber.F.ok scNoNumberinit (fun vs H Q E h => ?_) (fun cdv A outer s H vs Q E hr h => ?_)
  · obtain ⟨a, C, v, rfl, _⟩ := h
    rfl
  · obtain ⟨a, C, v, rfl, ox, no, ha, k⟩ := h
    refine ⟨_, (pss_one (ps_ost (pv 0) (pv 1))), ?_⟩
    exact ⟨_, rfl, _, rfl, a, C, rfl, ox, no, .inl ⟨ha, fun dx hd ne => k dx hd ne⟩⟩
theorem ok_NoDisk___init__ (D : Defs K mg) (T : Tx K mg) : FnOk P w K mg base CX0 1 D.erNoDisk.f D.erNoDisk.fd ["self", "found"] (spInitE K "found") := by
  refine D.erNoDisk.F.ok scNoDiskinit (fun vs H Q E h => ?_) (fun cdv A outer s H vs Q E hr h => ?_)
  · obtain ⟨a, C, v, rfl, _⟩ := h
    rfl
  · obtain ⟨a, C, v, rfl, ox, no, ha, k⟩ := h
    refine ⟨_, (pss_one (ps_ost (pv 0) (pv 1))), ?_⟩
    exact ⟨_, rfl, _, rfl, a, C, rfl, ox, no, .inl ⟨ha, fun dx hd ne => k dx hd ne⟩⟩
theorem ok_NoPage___init__ (D : Defs K mg) (T : Tx K mg) : FnOk P w K mg base CX0 1 D.erNoPage.f D.erNoPage.fd ["self", "found"] (spInitE K "found") := by
  refine D.erNoPage.F.ok scNoPageinit (fun vs H Q E h => ?_) (fun cdv A outer s H vs Q E hr h => ?_)
  · obtain ⟨a, C, v, rfl, _⟩ := h
    rfl
  · obtain ⟨a, C, v, rfl, ox, no, ha, k⟩ := h
    refine ⟨_, (pss_one (ps_ost (pv 0) (pv 1))), ?_⟩
    exact ⟨_, rfl, _, rfl, a, C, rfl, ox, no, .inl ⟨ha, fun dx hd ne => k dx hd ne⟩⟩
theorem ok_Dark___init__ (D : Defs K mg) (T : Tx K mg) : FnOk P w K mg base CX0 1 D.erDark.f D.erDark.fd ["self", "many"] (spInitE K "many") := by
  refine D.erDark.F.ok scDarkinit (fun vs H Q E h => ?_) (fun cdv A outer s H vs Q E hr h => ?_)
  · obtain ⟨a, C, v, rfl, _⟩ := h
    rfl
  · obtain ⟨a, C, v, rfl, ox, no, ha, k⟩ := h
    refine ⟨_, (pss_one (ps_ost (pv 0) (pv 1))), ?_⟩
    exact ⟨_, rfl, _, rfl, a, C, rfl, ox, no, .inl ⟨ha, fun dx hd ne => k dx hd ne⟩⟩
end
end LL
namespace LL
open PySem PySem.Spec PyProof.Rows L2
/-- an int that is data is no giant -/
def intOk : PyData → Bool
  | .int i => decide (i.natAbs.log2 < 1920)
  | _ => true
theorem un_of {k : Nat} {A : Around} (r : Room k A) : A.units + 200 < cLine := by
  have := r.un
  omega
theorem call_reprW {X : Cx} (guard : X.A.guards = some []) (run : X.A.units + 200 < cLine) : CallR X (.builtin "repr") (fun xs H Q => ∃ v d, xs = [v] ∧ Dz H v d ∧ isDisplay d = true ∧ Sz d 60 200000 ∧ Q (.str d.shown) H) := by
  intro pins s σ H xs us Q I r ⟨v, d, e, dp, disp, sz, q⟩
  subst e
  obtain ⟨u, rfl, r1⟩ := vals1 r
  have dep := sz.dep
  have len : d.shown.length ≤ sizeLine := by
    have h1 := PyData.shown_le 60 (by decide) d sz.lv
    have h2 := sz.wt
    have h3 := PySem.sizeLine_eq
    omega
  have fin : ∀ h' u tk, (∀ b o, s.heap.get? b = some o → h'.get? b = some o) → ∃ v' H', Inv X pins σ H' { s with heap := h', toks := tk } ∧ RelV v' (.str d.shown u) ∧ Q v' H' :=
    fun h' u tk keep => ⟨.str _, H, I.kept keep, ⟨_, rfl⟩, q⟩
  cases dp with
  | @lst a xs ds hs ha =>
    cases r1
    obtain ⟨its, rv, ⟨o, n, ho, hc, _, hd⟩, _⟩ := I.list (SqL.of hs)
    have z2 : (listText (PyData.shownAll ds)).length ≤ sizeLine := by simpa only [PyData.shown] using len
    obtain ⟨as, bs, hr, most, hk⟩ := DzAll.rep I ds _ its ha rv (by simpa only [PyData.showable] using sz.sh) fun t ht => Nat.le_trans (listText_mem_le ht) z2
    have rr := Reads.list ho hc hd hr
    have no := not_mem_of_deeper rr (by simp only [PyData.depth]; omega) most
    simp only [PyData.depth] at dep
    simp only [PyData.shown] at fin
    refine call_repr_slot (by omega) ⟨o, ho, hc⟩ F.slot_list_repr.toG ?_
    cases its with
    | nil =>
      have e0 : PyData.shownAll ds = [] := List.length_eq_zero_iff.mp hk.length_eq
      rw [e0, listText_nil] at fin
      exact call_list_repr_empty ⟨o, ho, hc⟩ ho hd ⟨_, _, rfl, fin s.heap _ _ fun _ _ e => e⟩
    | cons x l => exact call_list_reprK ho hc hd no (by simpa using hk.length_eq) (fun i y e => hk.item i y (by simpa using e)) guard (fun b _ => Clear.nil b) (by show X.A.units + 1 + (PyData.depthAll ds + 1) < cLine; omega) (fun _ _ e => e) (fun h' u tk k => ⟨_, _, rfl, fin h' u tk k⟩) z2
  | @tup a xs ds hs ha =>
    cases r1
    obtain ⟨its, rv, ⟨o, ho, hc, n, hd⟩, _⟩ := I.tuple (SqT.of hs)
    have z2 : (tupleText (PyData.shownAll ds)).length ≤ sizeLine := by simpa only [PyData.shown] using len
    obtain ⟨as, bs, hr, most, hk⟩ := DzAll.rep I ds _ its ha rv (by simpa only [PyData.showable] using sz.sh) fun t ht => Nat.le_trans (tupleText_mem_le ht) z2
    have rr := Reads.tuple ho hc hd hr
    have no := not_mem_of_deeper rr (by simp only [PyData.depth]; omega) most
    simp only [PyData.depth] at dep
    simp only [PyData.shown] at fin
    refine call_repr_slot (by omega) ⟨o, ho, hc⟩ F.slot_tuple_repr ?_
    exact call_tuple_reprK ho hc hd no hk guard (fun b _ => Clear.nil b) (by show X.A.units + 1 + (PyData.depthAll ds + 1) < cLine; omega) (fun _ _ e => e) (fun h' u tk k => ⟨_, _, rfl, fin h' u tk k⟩) z2
  | _ => cases disp
/-- repr of any data: numbers, texts, truths, None, lists, tuples, {} -/
theorem call_reprU {X : Cx} (guard : X.A.guards = some []) (run : X.A.units + 200 < cLine) : CallR X (.builtin "repr") (fun xs H Q => ∃ v d, xs = [v] ∧ Dz H v d ∧ intOk d = true ∧ Sz d 60 200000 ∧ Q (.str d.shown) H) := by
  intro pins s σ H xs us Q I r ⟨v, d, e, dp, io, sz, q⟩
  subst e
  cases dp with
  | lst h t => exact call_reprW guard run pins s σ H _ us Q I r ⟨_, _, rfl, .lst h t, rfl, sz, q⟩
  | tup h t => exact call_reprW guard run pins s σ H _ us Q I r ⟨_, _, rfl, .tup h t, rfl, sz, q⟩
  | non =>
    obtain ⟨u, rfl, r1⟩ := vals1 r
    cases (show u = Value.none from r1)
    simp only [PyData.shown] at q
    exact PySem.P.repr_of_none ⟨.str _, H, I.tok _, ⟨_, rfl⟩, q⟩
  | bl b =>
    obtain ⟨u, rfl, r1⟩ := vals1 r
    cases (show u = Value.bool b from r1)
    simp only [PyData.shown] at q
    exact PySem.P.repr_of_bool ⟨.str _, H, I.tok _, ⟨_, rfl⟩, q⟩
  | int i =>
    obtain ⟨u, rfl, t, rfl⟩ := vals1 r
    simp only [PyData.shown] at q
    exact PySem.P.repr_of_int (of_decide_eq_true io) ⟨.str _, H, I.tok _, ⟨_, rfl⟩, q⟩
  | str z =>
    obtain ⟨u, rfl, t, rfl⟩ := vals1 r
    have len : (PyData.str z).shown.length ≤ sizeLine := by
      have h1 := PyData.shown_le 60 (by decide) _ sz.lv
      have h2 := sz.wt
      have h3 := PySem.sizeLine_eq
      omega
    simp only [PyData.shown] at q len
    exact PySem.P.repr_of_str ⟨.str _, H, I.tok _, ⟨_, rfl⟩, q⟩ len
  | dct h =>
    obtain ⟨u, rfl, r1⟩ := vals1 r
    cases r1
    obtain ⟨z, lo, vs, rel, o, es, ep, h1, h2, h3, h4, h5, h6⟩ := dk_rd I.hok (.inl h)
    cases rel
    have e0 : es.toList = [] := by
      cases q : es.toList with
      | nil => rfl
      | cons x xs =>
        rw [q] at h5
        cases h5
    simp only [PyData.shown, PyData.shownKv] at q
    refine call_repr_slot (by omega) ⟨o, h1, h2.1⟩ F.slot_dict_repr ?_
    exact call_dict_reprK (as := []) (d := 0) (ps := []) h1 h2.1 h3 lo List.not_mem_nil (by rw [e0]; exact ReprEntriesK.nil) guard (fun b _ => Clear.nil b) (by show X.A.units + 1 + (0 + 1) < cLine; omega) (fun _ _ e => e)
      (fun h' u tk k => ⟨_, _, rfl, .str _, H, I.kept k, ⟨_, rfl⟩, q⟩)
theorem call_reprA {X : Cx} (guard : X.A.guards = some []) {k : Nat} (room : Room k X.A) : CallR X (.builtin "repr") (fun xs H Q => ∃ v d, xs = [v] ∧ Dz H v d ∧ intOk d = true ∧ Sz d 60 200000 ∧ Q (.str d.shown) H) := call_reprU guard (un_of room)
end LL
namespace LL
open PySem PySem.Spec PyProof.Rows L2
theorem pow32 {r : Int} (h0 : 0 ≤ r) (h1 : r < 32) : ∃ n : Nat, 1 * 2 ^ r.toNat = (n : Int) ∧ n < cB := by
  refine ⟨2 ^ r.toNat, ?_, ?_⟩
  · rw [Int.one_mul, PySem.W.kbt_cast]
  · rw [cB_pow]
    exact Nat.pow_lt_pow_right (by decide) (by omega)
theorem lit_lt {n : Nat} (h : n ≤ 4294967295) : n < cB := by
  rw [cB_eq]
  omega
def genP : Stmt → Scope
  | .Return (some (.BoolOp _ [_, _, .Call _ [.GeneratorExp _ _ sc _] _ _] _)) _ => sc
  | _ => { kind := .function, names := [], isGenerator := false, isCoroutine := false }
abbrev gscP : Scope := genP ((defBody scispage_st).getD 0 (.Pass ⟨0, 0, 0, 0⟩))
theorem gscP_names : gscP.names = [((".0" : Str), NameKind.local), (("number" : Str), NameKind.local), (("is_small" : Str), NameKind.globalImplicit)] := by decide +kernel
theorem genP_ok {env : Env} : GxR.GenS env gscP "number" := by
  refine ⟨by decide +kernel, by decide +kernel, ?_, by decide +kernel, by decide +kernel, ?_⟩
  · rw [gscP_names]
    decide +kernel
  · rw [gscP_names]
    intro y hy e
    simp only [List.mem_cons, List.not_mem_nil, or_false] at hy
    rcases hy with rfl | rfl | rfl <;> cases e
theorem turn_gen (c n T M B : Nat) : (Builtin.bitXor (c : Int) (n : Int) * (T : Int) + (M : Int)) % (B : Int) = ((((c ^^^ n) * T + M) % B : Nat) : Int) := by
  rw [xor_masks, Int.natCast_emod, Int.natCast_add, Int.natCast_mul]
theorem turn_eq (c n : Nat) : (Builtin.bitXor (c : Int) (n : Int) * 2654435769 + 40503) % 4294967296 = ((mixN c n : Nat) : Int) := by
  have t : ((cT : Nat) : Int) = 2654435769 := by rw [cT_eq]; rfl
  have m : ((cM : Nat) : Int) = 40503 := by rw [cM_eq]; rfl
  have b : ((cB : Nat) : Int) = 4294967296 := by rw [cB_eq]; rfl
  rw [← t, ← m, ← b]
  exact turn_gen c n cT cM cB
section
variable {P : Program} {w : World} {K : PySem.W.Frag} {mg : Str → Option Value} {base : Heap} {c1 c2 t1 t2 : Addr}
def spCell (K : PySem.W.Frag) : Sp := fun vs H Q _ => ∃ (a : Addr) (k : Nat) (ns : List Int), vs = [.ref a, .int k] ∧ SqL K H a (ns.map V.int) ∧ ∀ i : Int, Q (.int i) H
theorem ok__law_cell_at (D : Defs K mg) (T : Tx K mg) : FnOk P w K mg base CX0 1 D._law_cell_at.f D._law_cell_at.fd ["_law_script", "_law_k"] (spCell K) := by
  refine D._law_cell_at.F.ok scLcellat (fun vs H Q E h => ?_) (fun cdv A outer s H vs Q E hr h => ?_)
  · obtain ⟨a, k, ns, rfl, _⟩ := h
    rfl
  · obtain ⟨a, j, ns, rfl, hS, k⟩ := h
    refine ⟨_, (pss_cons (ps_if (pt_cmpR op_lt (pv 1) (pe_callB call_len_seq (by rfl) T.b_len (by decide +kernel) (pa_cons (pv 0) pa_nil)) (nomark _)) (pss_one (ps_ret (pe_ix ix_list (pv 0) (pv 1) (fun _ _ => rfl)))) pss_nil)
        (pss_one (ps_ret (pe_op op_add (pe_op op_mul pe_int (pv 1)) pe_int)))), ?_⟩
    refine ⟨_, rfl, _, rfl, a, _, rfl, .inl hS, _, _, rfl, rfl, _, rfl, ?_⟩
    refine ite2 (fun y => ?_) (fun _ => ?_)
    · have hj : j < ns.length := by
        have := of_decide_eq_true y
        rw [List.length_map] at this
        omega
      refine ⟨_, rfl, _, rfl, a, _, _, _, rfl, rfl, hS, atI_nat (v := .int ns[j]) ?_, k _⟩
      rw [List.getElem?_map, List.getElem?_eq_getElem hj]
      rfl
    · exact ⟨_, rfl, _, _, rfl, rfl, .inl ⟨by decide, by decide⟩, _, _, rfl, rfl, k _⟩
def spBox : Sp := fun vs H Q _ => ∃ i : Int, vs = [.int i] ∧ ∀ p o, H p = none → BoxO o → Q (.ref p) (upd H p o)
theorem ok__law_box (D : Defs K mg) (T : Tx K mg) : FnOk P w K mg base CX0 1 D._law_box.f D._law_box.fd ["_law_cell"] spBox := by
  refine D._law_box.F.ok scLbox (fun vs H Q E h => ?_) (fun cdv A outer s H vs Q E hr h => ?_)
  · obtain ⟨i, rfl, _⟩ := h
    rfl
  · obtain ⟨i, rfl, k⟩ := h
    have m0 : 0 ≤ i % 2147483563 := Int.emod_nonneg _ (by decide)
    have m1 : i % 2147483563 < 2147483563 := Int.emod_lt_of_pos _ (by decide)
    refine ⟨_, (pss_one (ps_ret (pe_lst (pa_cons (pe_op op_mul (pe_callB (call_max2 rfl) (by rfl) T.b_max (by decide +kernel) (pa_cons pe_int (pa_cons (pv 0) pa_nil))) (pe_callTy call_int1 (by rfl) T.b_int (by decide +kernel) (pa_cons (pe_cmpR op_ge (pv 0) (pe_op op_pow pe_int pe_int) (nomark _)) pa_nil))) (pa_cons (pe_op op_mod (pv 0) pe_int) (pa_cons pe_int pa_nil)))))), ?_⟩
    refine ⟨_, rfl, _, _, rfl, _, rfl, _, _, rfl, rfl, ⟨by decide, by decide, by decide⟩, _, _, rfl, rfl, .inr ⟨_, rfl, _, _, rfl, rfl, .inr ⟨by split <;> decide, by split <;> decide⟩, _, rfl, _, _, rfl, rfl, (by show (0 : Int) < 2147483563; decide), (by show 3 ≤ sizeLine; decide), fun p hp => k p _ hp ⟨_, _, 0, rfl, ?_, m0, by omega⟩⟩⟩
    split <;> split <;> omega
def spTake : Sp := fun vs H Q _ => ∃ (a : Addr) (m : Int), vs = [.ref a, .int m] ∧ Bx H a ∧ 0 < m ∧ m ≤ 4294967296 ∧ ∀ r H', 0 ≤ r → r < m → Kept a H H' → Q (.int r) H'
theorem ok__law_take (D : Defs K mg) (T : Tx K mg) : FnOk P w K mg base CX0 1 D._law_take.f D._law_take.fd ["_law_box_here", "_law_many_here"] spTake := by
  refine D._law_take.F.ok scLtake (fun vs H Q E h => ?_) (fun cdv A outer s H vs Q E hr h => ?_)
  · obtain ⟨a, m, rfl, _⟩ := h
    rfl
  · obtain ⟨a, m, rfl, ⟨_, hb, ⟨x, b, n, rfl, x0, b0, b1⟩⟩, m0, m1, k⟩ := h
    have hS : SqL K H a [.int x, .int b, .int n] := SqL.of hb
    refine ⟨_, (pss_cons (ps_if (pt_cmpR op_gt (pe_ix ix_list (pv 0) pe_int (fun _ _ => rfl)) pe_int (nomark _)) (pss_cons (ps_set (i := 2) scLtake.nd rfl (Or.inl rfl) (pe_op op_mod (pe_ix ix_list (pv 0) pe_int (fun _ _ => rfl)) (pv 1)))
        (pss_cons (ps_asg (pe_op op_fdivW (pe_ix ix_list (pv 0) pe_int (fun _ _ => rfl)) (pv 1)) (pg_sub (pv 0) pe_int set_list))
        (pss_one (ps_ret (pv 2))))) pss_nil)
        (pss_cons (ps_asg (pe_op op_add (pe_ix ix_list (pv 0) pe_int (fun _ _ => rfl)) pe_int) (pg_sub (pv 0) pe_int set_list))
        (pss_cons (ps_set (i := 3) scLtake.nd rfl (Or.inl rfl) (pe_op op_mod (pe_op op_add (pe_op op_add (pe_op op_mul (pe_ix ix_list (pv 0) pe_int (fun _ _ => rfl)) pe_int) (pe_op op_mul pe_int (pe_ix ix_list (pv 0) pe_int (fun _ _ => rfl)))) pe_int) pe_int))
        (pss_cons (ps_set (i := 3) scLtake.nd rfl (Or.inl rfl) (pe_op op_mod (pe_op op_mul (pe_op op_add (pv 3) (pe_op op_mul pe_int (pe_ix ix_list (pv 0) pe_int (fun _ _ => rfl)))) (pv 3)) pe_int))
        (pss_one (ps_ret (pe_op op_mod (pe_op op_fdiv (pe_op op_mod (pe_op op_mul (pe_op op_mod (pe_op op_add (pe_op op_mul (pv 3) pe_int) pe_int) pe_int) (pe_op op_add (pv 3) pe_int)) pe_int) pe_int) (pv 1)))))))), ?_⟩
    refine ⟨_, rfl, a, _, _, _, rfl, rfl, hS, at0 _ _ _, _, _, rfl, rfl, _, rfl, ?_⟩
    refine ite2 (fun _ => ?_) (fun _ => ?_)
    · refine ⟨_, rfl, a, _, _, _, rfl, rfl, hS, at0 _ _ _, _, rfl, _, _, rfl, rfl, m0, ?_⟩
      refine ⟨_, rfl, a, _, _, _, rfl, rfl, hS, at0 _ _ _, _, rfl, _, _, rfl, rfl, wide_div (b := 33) m0 (by omega) (by decide) (by decide), ?_⟩
      refine ⟨_, rfl, a, _, _, 0, rfl, rfl, hb, rfl, ?_⟩
      exact ⟨_, rfl, k _ _ (Int.emod_nonneg _ (by omega)) (Int.emod_lt_of_pos _ m0) (Kept.upd ⟨_, _, _, rfl, Int.ediv_nonneg x0 (by omega), b0, b1⟩)⟩
    · refine ⟨_, rfl, a, _, _, _, rfl, rfl, hS, at2 _ _ _, _, _, rfl, rfl, ?_⟩
      refine ⟨_, rfl, a, _, _, 2, rfl, rfl, hb, rfl, ?_⟩
      have hb2 : (upd H a (.lst [.int x, .int b, .int (n + 1)])) a = some (.lst [.int x, .int b, .int (n + 1)]) := upd_same
      have hS2 : SqL K (upd H a (.lst [.int x, .int b, .int (n + 1)])) a [.int x, .int b, .int (n + 1)] := SqL.of hb2
      refine ⟨_, rfl, a, _, _, _, rfl, rfl, hS2, at1 _ _ _, _, _, rfl, rfl, .inr ⟨by decide, by decide⟩, _, rfl, a, _, _, _, rfl, rfl, hS2, at2 _ _ _, _, _, rfl, rfl, .inl ⟨by decide, by decide⟩, _, _, rfl, rfl, _, _, rfl, rfl, _, _, rfl, rfl, (by show (0 : Int) < 2147483647; decide), ?_⟩
      generalize hN : (b * 40692 + 10007 * (n + 1) + 13) % 2147483647 = N
      have N0 : 0 ≤ N := by rw [← hN]; exact Int.emod_nonneg _ (by decide)
      have N1 : N < 2147483647 := by rw [← hN]; exact Int.emod_lt_of_pos _ (by decide)
      refine ⟨_, rfl, _, rfl, a, _, _, _, rfl, rfl, hS2, at2 _ _ _, _, _, rfl, rfl, .inl ⟨by decide, by decide⟩, _, _, rfl, rfl, _, rfl, _, _, rfl, rfl, .inr ⟨by omega, by omega⟩, _, _, rfl, rfl, (by show (0 : Int) < 2147483629; decide), ?_⟩
      generalize hM : (N + 11 * (n + 1)) * N % 2147483629 = M
      have M0 : 0 ≤ M := by rw [← hM]; exact Int.emod_nonneg _ (by decide)
      have M1 : M < 2147483629 := by rw [← hM]; exact Int.emod_lt_of_pos _ (by decide)
      refine ⟨_, rfl, _, _, rfl, rfl, .inr ⟨by decide, by decide⟩, _, _, rfl, rfl, _, _, rfl, rfl, (by show (0 : Int) < 2147483587; decide), ?_⟩
      refine ⟨_, rfl, _, _, rfl, rfl, _, _, rfl, rfl, .inr ⟨by omega, by omega⟩, _, _, rfl, rfl, (by show (0 : Int) < 2147483579; decide), _, _, rfl, rfl, ⟨by decide, by decide⟩, _, rfl, _, _, rfl, rfl, m0, ?_⟩
      exact k _ _ (Int.emod_nonneg _ (by omega)) (Int.emod_lt_of_pos _ m0) (Kept.upd ⟨_, _, _, rfl, x0, b0, b1⟩)
def spWord : Sp := fun vs H Q _ => ∃ (a : Addr), vs = [.ref a] ∧ Bx H a ∧ ∀ (n : Nat) H', n < cB → Kept a H H' → Q (.int (n : Int)) H'
theorem ok__law_word (D : Defs K mg) (T : Tx K mg) : FnOk P w K mg base CX0 2 D._law_word.f D._law_word.fd ["_law_box_here"] spWord := by
  have G_law_take := ok__law_take (P := P) (w := w) (base := base) D T
  refine D._law_word.F.ok scLword (fun vs H Q E h => ?_) (fun cdv A outer s H vs Q E hr h => ?_)
  · obtain ⟨a, rfl, _⟩ := h
    rfl
  · obtain ⟨a, rfl, bx, k⟩ := h
    refine ⟨_, (pss_cons (ps_set (i := 1) scLword.nd rfl (Or.inl rfl) (pe_lst (pa_cons pe_int (pa_cons pe_int (pa_cons pe_int (pa_cons pe_int (pa_cons (pe_op op_shl pe_int (pcall D._law_take G_law_take hr (by decide) (by rfl) (pa_cons (pv 0) (pa_cons pe_int pa_nil)))) (pa_cons (pcall D._law_take G_law_take hr (by decide) (by rfl) (pa_cons (pv 0) (pa_cons pe_int pa_nil))) (pa_cons (pcall D._law_take G_law_take hr (by decide) (by rfl) (pa_cons (pv 0) (pa_cons pe_int pa_nil))) pa_nil)))))))))
        (pss_one (ps_ret (pe_ix ix_list (pv 1) (pcall D._law_take G_law_take hr (by decide) (by rfl) (pa_cons (pv 0) (pa_cons pe_int pa_nil))) (fun _ _ => rfl))))), ?_⟩
    refine ⟨_, rfl, a, 32, rfl, bx, by decide, by decide, fun r H1 r0 r1 k1 => ?_⟩
    obtain ⟨n1, e1, l1⟩ := pow32 r0 r1
    refine ⟨_, _, rfl, rfl, ⟨by omega, by omega, by decide⟩, ?_⟩
    refine ⟨_, rfl, a, 4294967296, rfl, k1.bx, by decide, by decide, fun r2 H2 r20 r21 k2 => ?_⟩
    obtain ⟨n2, rfl⟩ := int_of r20
    refine ⟨_, rfl, a, 400, rfl, k2.bx, by decide, by decide, fun r3 H3 r30 r31 k3 => ?_⟩
    obtain ⟨n3, rfl⟩ := int_of r30
    refine ⟨(by show 7 ≤ sizeLine; decide), fun l hl => ?_⟩
    generalize hG : upd _ _ _ = H4
    obtain ⟨x4, w4⟩ := obj_of hl hG
    clear hG
    have kk := ((k1.trans k2).trans k3).trans (x4.kept k3.bx)
    refine ⟨_, rfl, _, rfl, a, 7, rfl, kk.bx, by decide, by decide, fun m H5 m0 m1 k5 => ?_⟩
    have w5 := k5.get kk.bx w4 rfl
    obtain ⟨v, hv, mem⟩ := at_mem (xs := [.int 0, .int 1, .int 2, .int 4294967295, .int (1 * 2 ^ r.toNat), .int (n2 : Int), .int (n3 : Int)]) m0 m1
    have al : ∃ n : Nat, v = .int (n : Int) ∧ n < cB := by
      simp only [List.mem_cons, List.not_mem_nil, or_false] at mem
      rcases mem with rfl | rfl | rfl | rfl | rfl | rfl | rfl
      · exact ⟨0, rfl, lit_lt (by omega)⟩
      · exact ⟨1, rfl, lit_lt (by omega)⟩
      · exact ⟨2, rfl, lit_lt (by omega)⟩
      · exact ⟨4294967295, rfl, lit_lt (by omega)⟩
      · exact ⟨n1, congrArg V.int e1, l1⟩
      · exact ⟨n2, rfl, lit_lt (by omega)⟩
      · exact ⟨n3, rfl, lit_lt (by omega)⟩
    obtain ⟨n, rfl, ln⟩ := al
    exact ⟨l, _, _, _, rfl, rfl, SqL.of w5, hv, k n _ ln (kk.trans k5)⟩
def spCrossed : Sp := fun vs H Q _ => ∃ (a b : Nat), vs = [.int (a : Int), .int (b : Int)] ∧ Q (.int (a ^^^ b : Nat)) H
theorem ok__law_crossed (D : Defs K mg) (T : Tx K mg) : FnOk P w K mg base CX0 1 D._law_crossed.f D._law_crossed.fd ["_law_one", "_law_other"] spCrossed := by
  refine D._law_crossed.F.ok scLcrossed (fun vs H Q E h => ?_) (fun cdv A outer s H vs Q E hr h => ?_)
  · obtain ⟨a, b, rfl, _⟩ := h
    rfl
  · obtain ⟨a, b, rfl, k⟩ := h
    refine ⟨_, (pss_one (ps_ret (pe_op op_sub (pe_op op_add (pv 0) (pv 1)) (pe_op op_mul pe_int (pe_op op_and (pv 0) (pv 1)))))), ?_⟩
    refine ⟨_, rfl, _, rfl, _, _, rfl, rfl, _, rfl, _, rfl, _, _, rfl, rfl, _, _, rfl, rfl, .inl ⟨by decide, by decide⟩, _, _, rfl, rfl, ?_⟩
    rw [← crossed_masks] at k
    exact k
def spLawCheck (K : PySem.W.Frag) : Sp := fun vs H Q _ => ∃ (a : Addr) (ns : List Nat), vs = [.ref a] ∧ (H a = some (.lst (numV ns)) ∨ H a = some (.tup (numV ns))) ∧ (∀ n ∈ ns, n < cB) ∧ Q (.int (chkN ns : Nat)) H
theorem ok__law_check (D : Defs K mg) (T : Tx K mg) : FnOk P w K mg base CX0 2 D._law_check.f D._law_check.fd ["_law_numbers_here"] (spLawCheck K) := by
  have G_law_crossed := ok__law_crossed (P := P) (w := w) (base := base) D T
  refine D._law_check.F.ok scLcheck (fun vs H Q E h => ?_) (fun cdv A outer s H vs Q E hr h => ?_)
  · obtain ⟨a, ns, rfl, _⟩ := h
    rfl
  · obtain ⟨a, ns, rfl, ha, lt, k⟩ := h
    refine ⟨_, (pss_cons (ps_set (i := 1) scLcheck.nd rfl (Or.inl rfl) pe_int)
        (pss_cons (ps_for PassesOwn.never rfl (pi_seq (pv 0)) (pg_name (i := 2) scLcheck.nd rfl (Or.inl rfl)) (pss_cons (ps_set (i := 1) scLcheck.nd rfl (Or.inl rfl) (pe_op op_mod (pe_op op_add (pe_op op_mul (pcall D._law_crossed G_law_crossed hr (by decide) (by rfl) (pa_cons (pv 1) (pa_cons (pv 2) pa_nil))) pe_int) pe_int) pe_int))
        (pss_one (ps_set (i := 1) scLcheck.nd rfl (Or.inl rfl) (pcall D._law_crossed G_law_crossed hr (by decide) (by rfl) (pa_cons (pv 1) (pa_cons (pe_op op_fdiv (pv 1) pe_int) pa_nil)))))))
        (pss_one (ps_ret (pv 1))))), ?_⟩
    have fold : ∀ i n, ns[i]? = some n → chkN (ns.take (i + 1)) = stepN (chkN (ns.take i)) n := fun i n hn => by
      rw [List.take_add_one, hn]
      exact chk_snoc _ _
    refine ⟨_, rfl, a, rfl, ?_⟩
    rcases ha with ha | ha
    · refine .inl ⟨⟨_, SqL.of ha⟩, for_list (K := K) (a := a) (xs := numV ns) (fun i σ H' => H' = H ∧ ∃ v1, σ = [some (.ref a), some (.int (chkN (ns.take i) : Nat)), v1])
        ⟨rfl, _, by rw [List.take_zero]; exact congrArg (fun n : Nat => [some (V.ref a), some (V.int n), none]) cS_eq.symm⟩ (fun i σ H' _ q => by rw [q.1]; exact SqL.of ha) ?_ ?_⟩
      · rintro i x σ H' hx ⟨rfl, v1, rfl⟩
        obtain ⟨n, hn, rfl⟩ := numV_get hx
        have e := fold i n hn
        generalize chkN (ns.take i) = c at e ⊢
        have e1 : (((c ^^^ n : Nat) : Int) * 2654435769 + 40503) % 4294967296 = ((mixN c n : Nat) : Int) := by
          rw [← xor_masks]
          exact turn_eq c n
        have e2 : ((mixN c n : Nat) : Int) / 32768 = ((mixN c n / 2 ^ 15 : Nat) : Int) := by
          push_cast
          rfl
        refine ⟨_, rfl, _, rfl, c, n, rfl, _, _, rfl, rfl, .inr ⟨by decide, by decide⟩, _, _, rfl, rfl, _, _, rfl, rfl, (by show (0 : Int) < 4294967296; decide), ?_⟩
        refine ⟨_, rfl, _, rfl, _, _, rfl, rfl, ⟨by decide, by decide⟩, mixN c n, mixN c n / 2 ^ 15, ?_, rfl, some (.int (n : Int)), ?_⟩
        · show [V.int ((((c ^^^ n : Nat) : Int) * 2654435769 + 40503) % 4294967296), V.int ((((c ^^^ n : Nat) : Int) * 2654435769 + 40503) % 4294967296 / 32768)] = _
          rw [e1, e2]
        · rw [e]
          unfold stepN
          rfl
      · rintro σ H' ⟨rfl, v1, rfl⟩
        refine ⟨_, rfl, ?_⟩
        rw [numV_len, List.take_length]
        exact k
    · refine .inr ⟨⟨_, SqT.of ha⟩, for_tup (K := K) (a := a) (xs := numV ns) (fun i σ H' => H' = H ∧ ∃ v1, σ = [some (.ref a), some (.int (chkN (ns.take i) : Nat)), v1])
        ⟨rfl, _, by rw [List.take_zero]; exact congrArg (fun n : Nat => [some (V.ref a), some (V.int n), none]) cS_eq.symm⟩ (fun i σ H' _ q => by rw [q.1]; exact SqT.of ha) ?_ ?_⟩
      · rintro i x σ H' hx ⟨rfl, v1, rfl⟩
        obtain ⟨n, hn, rfl⟩ := numV_get hx
        have e := fold i n hn
        generalize chkN (ns.take i) = c at e ⊢
        have e1 : (((c ^^^ n : Nat) : Int) * 2654435769 + 40503) % 4294967296 = ((mixN c n : Nat) : Int) := by
          rw [← xor_masks]
          exact turn_eq c n
        have e2 : ((mixN c n : Nat) : Int) / 32768 = ((mixN c n / 2 ^ 15 : Nat) : Int) := by
          push_cast
          rfl
        refine ⟨_, rfl, _, rfl, c, n, rfl, _, _, rfl, rfl, .inr ⟨by decide, by decide⟩, _, _, rfl, rfl, _, _, rfl, rfl, (by show (0 : Int) < 4294967296; decide), ?_⟩
        refine ⟨_, rfl, _, rfl, _, _, rfl, rfl, ⟨by decide, by decide⟩, mixN c n, mixN c n / 2 ^ 15, ?_, rfl, some (.int (n : Int)), ?_⟩
        · show [V.int ((((c ^^^ n : Nat) : Int) * 2654435769 + 40503) % 4294967296), V.int ((((c ^^^ n : Nat) : Int) * 2654435769 + 40503) % 4294967296 / 32768)] = _
          rw [e1, e2]
        · rw [e]
          unfold stepN
          rfl
      · rintro σ H' ⟨rfl, v1, rfl⟩
        refine ⟨_, rfl, ?_⟩
        rw [numV_len, List.take_length]
        exact k
/-- is_page's answer of a thing -/
inductive PageT (K : PySem.W.Frag) (H : Hp) : V → Bool → Prop
  | other {x : V} (h : IsTup K H x false) : PageT K H x false
  | len {a : Addr} {xs : List V} (h : H a = some (.tup xs)) (l : xs.length ≠ 20) (s : xs.length ≤ 1000) : PageT K H (.ref a) false
  | items {a : Addr} {xs : List V} (h : H a = some (.tup xs)) (l : xs.length = 20) (th : ∀ u ∈ xs, Thing K H u) : PageT K H (.ref a) (xs.all fun u => within u 0 4294967295)
def spIsPage (K : PySem.W.Frag) (t1 : Addr) : Sp := fun vs H Q _ => ∃ (x : V) (b : Bool), vs = [x] ∧ PageT K H x b ∧ GxR.TabG H t1 ∧ ∀ H', Nw t1 H H' → Q (.bl b) H'
theorem ok_is_page (D : Defs K mg) (T : Tx K mg) (hc1 : D.is_page.fd.code = .ref c1) (TB1 : GxR.TabB base mg c1 t1) : FnOk P w K mg base CX0 8 D.is_page.f D.is_page.fd ["thing"] (spIsPage K t1) := by
  have Gis_small := ok_is_small (P := P) (w := w) (base := base) D T
  refine okC D.is_page.F hc1 scispage (fun vs H Q E h => ?_) (fun A outer s H vs Q E hr h => ?_)
  · obtain ⟨x, b, rfl, _⟩ := h
    rfl
  · obtain ⟨x, b, rfl, pt, tab, k⟩ := h
    have GS := genP_ok (env := envOfC "is_page" (defScope scispage_st) s.heap.objs.size D.is_page.f (.ref c1))
    have hcode : (cxOf CX0 P w K mg base scispage_N "is_page" (defScope scispage_st) D.is_page.f (.ref c1) A outer s H E).nox.env.code = .ref c1 := rfl
    refine ⟨_, (pss_one (ps_ret (pe_and (pe_callB call_is_tuple (by rfl) T.b_isinstance (by decide +kernel) (pa_cons (pv 0) (pa_cons (pe_bltn (v := .ty "tuple") (u := .type "tuple") (by rfl) T.b_tuple (by decide +kernel) rfl) pa_nil))) (pe_and (pe_cmpR op_eq (pe_callB call_len_seq (by rfl) T.b_len (by decide +kernel) (pa_cons (pv 0) pa_nil)) (pe_glob (v := .int 20) (by rfl) T.g_PAGE_SIZE ⟨_, rfl⟩) (nomark _)) (pe_one (pe_allL true (k := 4) [] hr (by rfl) T.b_all (by decide +kernel) TB1 hcode GS (pv 0) (by decide) (fun q hq => by cases hq) (fun cv s H ia A hrA => pcall D.is_small Gis_small hrA (by decide) (by rfl) (pa_cons (pv 0) pa_nil)) (fun _ => rfl))))))), ?_⟩
    cases pt with
    | other h => exact ⟨_, rfl, _, _, rfl, h, _, rfl, iteF (k H (Nw.refl tab))⟩
    | @len a xs h l s =>
      refine ⟨_, rfl, _, _, rfl, .tup (tyX_t h), _, rfl, iteT ?_⟩
      refine ⟨_, rfl, a, xs, rfl, .inr (SqT.of h), rfl, ?_⟩
      rw [decide_eq_false (fun z => by injection z with z; omega)]
      exact ⟨_, rfl, iteF (k H (Nw.refl tab))⟩
    | @items a xs h l th =>
      refine ⟨_, rfl, _, _, rfl, .tup (tyX_t h), _, rfl, iteT ?_⟩
      refine ⟨_, rfl, a, xs, rfl, .inr (SqT.of h), rfl, ?_⟩
      rw [decide_eq_true (by rw [l]; rfl)]
      refine ⟨_, rfl, iteT ?_⟩
      refine ⟨_, rfl, a, xs, rfl, SqT.of h, tab, fun i H' => GxR.Tabbed t1 H H' ∧ ∀ j u, j < i → xs[j]? = some u → within u 0 4294967295 = true, fun H2 t2 => ⟨t2, fun j u hj => absurd hj (Nat.not_lt_zero j)⟩,
        fun i H' p => SqT.of ((Nw.of tab p.1).tup h), fun i v H' hv p => ?_, fun H' p => ?_⟩
      · refine ⟨_, rfl, v, rfl, (th v (List.mem_of_getElem? hv)).keep (Nw.of tab p.1).keep, ?_⟩
        cases b : within v 0 4294967295 with
        | true =>
          refine ⟨true, rfl, iteT ⟨p.1, fun j u hj hu => ?_⟩⟩
          rcases Nat.lt_succ_iff_lt_or_eq.mp hj with l | rfl
          · exact p.2 j u l hu
          · rw [hv] at hu
            cases hu
            exact b
        | false =>
          refine ⟨false, rfl, iteF ?_⟩
          have e : (xs.all fun u => within u 0 4294967295) = false := by
            rw [List.all_eq_false]
            exact ⟨v, List.mem_of_getElem? hv, by rw [b]; decide⟩
          rw [e] at k
          exact k _ (Nw.of tab p.1)
      · have e : (xs.all fun u => within u 0 4294967295) = true := by
          rw [List.all_eq_true]
          intro u hu
          obtain ⟨j, hj⟩ := List.mem_iff_getElem?.mp hu
          exact p.2 j u (List.getElem?_eq_some_iff.mp hj).1 hj
        rw [e] at k
        exact k _ (Nw.of tab p.1)
def blankN : List Nat := List.replicate 20 0
def spBlank : Sp := fun vs H Q _ => vs = [] ∧ ∀ p H', Exd H H' → H' p = some (.tup (numV blankN)) → Q (.ref p) H'
theorem ok_blank_page (D : Defs K mg) (T : Tx K mg) : FnOk P w K mg base CX0 1 D.blank_page.f D.blank_page.fd [] spBlank := by
  refine D.blank_page.F.ok scblankpage (fun vs H Q E h => ?_) (fun cdv A outer s H vs Q E hr h => ?_)
  · rw [h.1]
    rfl
  · obtain ⟨rfl, k⟩ := h
    refine ⟨_, (pss_one (ps_ret (pe_op op_repT (pe_tup (pa_cons pe_int pa_nil)) (pe_glob (v := .int 20) (by rfl) T.g_PAGE_SIZE ⟨_, rfl⟩)))), ?_⟩
    refine ⟨(by show 1 ≤ sizeLine; decide), fun p hp => ?_⟩
    generalize hG : upd _ _ _ = H1
    obtain ⟨x1, w1⟩ := obj_of hp hG
    clear hG
    exact ⟨p, 20, _, rfl, rfl, SqT.of w1, (fun z => by cases z), by decide, by decide, (by show 1 ≤ 1000; decide), fun q hq => k _ _ (x1.new hq) (by rw [upd_same]; rfl)⟩
end
end LL
namespace LL
open PySem PySem.Spec PyProof.Rows L2
theorem gset {i : Nat} {v : V} {σ σ' : L2.St} {H : Hp} {Q : L2.St → Hp → Prop} (h : σ.set i (some v) = σ') (q : Q σ' H) : gName i v σ H Q := by
  subst h
  exact q
/-- how many numbers may still be written -/
def lv : Option Nat → V
  | none => .non
  | some n => .int (n : Int)
def powF (l : Option Nat) (s : Nat) : List (Str × V) := [("_left", lv l), ("_spent", .int (s : Int))]
def PowAt (C : Addr) (H : Hp) (p : Addr) (l : Option Nat) (s : Nat) : Prop := ∃ dx, H p = some (.ins C dx (powF l s))
/-- an own error is raised with v, new things and the tables aside nothing has changed -/
def RaiW (Ts : List Addr) (C : Addr) (v : V) (H : Hp) (E : XK) (fl : Str := "found") : Prop := ∀ d H', Nws Ts H H' → H d = none → H' d = some (.xd [(fl, v)]) → E (.ref C) (some d) H'
theorem RaiW.raise {Ts : List Addr} {C : Addr} {v : V} {d : Addr} {H H' : Hp} {E : XK} {fl : Str} (h : RaiW Ts C v H E fl) (x : Nws Ts H H') (hd : H' d = none) : E (.ref C) (some d) (L2.upd H' d (.xd [(fl, v)])) := h d _ (x.new hd) (x.free hd) upd_same
theorem RaiW.at {Ts : List Addr} {C : Addr} {v : V} {H H1 : Hp} {E : XK} {fl : Str} (h : RaiW Ts C v H E fl) (x : Nws Ts H H1) : RaiW Ts C v H1 E fl := fun d H' n hd e => h d H' (x.trans n) (x.free hd) e
/-- a thing that is no count of numbers -/
def noPow : V → Bool
  | .non => false
  | .int i => decide (i < 0)
  | _ => true
theorem isInt_or {K : PySem.W.Frag} {H : Hp} {x : V} (h : Thing K H x) (n : noPow x = true) : x ≠ .non ∧ ((isInt x = false) ∨ ∃ i : Int, x = .int i ∧ i < 0) := by
  cases h with
  | non => cases n
  | int i => exact ⟨(fun z => by cases z), .inr ⟨i, rfl, of_decide_eq_true n⟩⟩
  | bl b => exact ⟨(fun z => by cases z), .inl rfl⟩
  | str z => exact ⟨(fun z => by cases z), .inl rfl⟩
  | lst _ => exact ⟨(fun z => by cases z), .inl rfl⟩
  | tup _ => exact ⟨(fun z => by cases z), .inl rfl⟩
  | dct _ => exact ⟨(fun z => by cases z), .inl rfl⟩
section
variable {P : Program} {w : World} {K : PySem.W.Frag} {mg : Str → Option Value} {base : Heap} {c1 c2 t1 t2 : Addr}
def spPowI (K : PySem.W.Frag) (C N : Addr) (Ts : List Addr) : Sp := fun vs H Q E => ∃ (p dx : Addr) (x : V), vs = [.ref p, x] ∧ H p = some (.ins C dx []) ∧ (∀ R ∈ Ts, GxR.TabG H R) ∧
  ((∃ l, x = lv l ∧ Q .non (upd H p (.ins C dx (powF l 0)))) ∨ (Thing K H x ∧ noPow x = true ∧ RaiW Ts N x H E))
theorem ok_Power___init__ (D : Defs K mg) (T : Tx K mg) : FnOk P w K mg base (CX P w) 4 D.Power___init__.f D.Power___init__.fd ["self", "many"] (spPowI K D.cPower D.erNoNumber.C [t1, t2]) := by
  have GNoNumber___init__ := ok_NoNumber___init__ (P := P) (w := w) (base := base) D T
  have Gis_whole := ok_is_whole (P := P) (w := w) (base := base) D T
  have GNoNumber___init__ := ok_NoNumber___init__ (P := P) (w := w) (base := base) D T
  refine D.Power___init__.F.ok scPowerinit (fun vs H Q E h => ?_) (fun cdv A outer s H vs Q E hr h => ?_)
  · obtain ⟨p, dx, x, rfl, _⟩ := h
    rfl
  · obtain ⟨p, dx, x, rfl, hp, tabs, k⟩ := h
    refine ⟨_, (pss_cons (ps_if (PW.pt (pw_and (pt_cmpR op_notN (pv 1) pe_non (nomark _)) (pw_and1 (PW.pt (pw_or (pt_not (pt_val (pcall D.is_whole Gis_whole hr (by decide) (by rfl) (pa_cons (pv 1) pa_nil)))) (pw_or1 (pt_cmpR op_lt (pv 1) pe_int (nomark _)))))))) (pss_one (ps_raise rfl (takes_of rfl rfl rfl rfl) (pmkE D.erNoNumber GNoNumber___init__ rfl rfl rfl rfl rfl hr (by decide) (by rfl) (pa_cons (pv 1) pa_nil)))) pss_nil)
        (pss_cons (ps_fld (pv 0) (pv 1) rfl)
        (pss_one (ps_fld (pv 0) pe_int rfl)))), ?_⟩
    have nn : ∀ {x : V}, x ≠ .non → decide (x = V.non) = false := fun z => decide_eq_false z
    rcases k with ⟨l, rfl, k⟩ | ⟨th, no, k⟩
    · cases l with
      | none =>
        refine ⟨_, rfl, rfl, _, rfl, ?_⟩
        rw [show decide (lv none = V.non) = true from decide_eq_true rfl]
        refine iteF ?_
        refine ⟨_, rfl, _, rfl, p, D.cPower, dx, [], rfl, hp, D.clPower, D.n_left, (by show 0 < 1000; decide), ?_⟩
        refine ⟨_, rfl, p, D.cPower, dx, _, rfl, upd_same, D.clPower, D.n_spent, (by show 1 < 1000; decide), ?_⟩
        rw [upd_upd]
        exact k
      | some n =>
        refine ⟨_, rfl, rfl, _, rfl, ?_⟩
        rw [show decide (lv (some n) = V.non) = false from decide_eq_false (fun z => by cases z)]
        refine iteT ?_
        refine ⟨_, rfl, _, rfl, .int _, _, rfl, iteF ?_⟩
        refine ⟨_, rfl, _, _, rfl, rfl, _, rfl, ?_⟩
        rw [decide_eq_false (by omega)]
        refine iteF ?_
        refine ⟨_, rfl, _, rfl, p, D.cPower, dx, [], rfl, hp, D.clPower, D.n_left, (by show 0 < 1000; decide), ?_⟩
        refine ⟨_, rfl, p, D.cPower, dx, _, rfl, upd_same, D.clPower, D.n_spent, (by show 1 < 1000; decide), ?_⟩
        rw [upd_upd]
        exact k
    · obtain ⟨ne, nb⟩ := isInt_or th no
      refine ⟨_, rfl, rfl, _, rfl, ?_⟩
      rw [nn ne]
      refine iteT ?_
      refine ⟨_, rfl, _, rfl, th, ?_⟩
      rcases nb with nb | ⟨i, rfl, i0⟩
      · rw [nb]
        exact ⟨_, rfl, iteT ⟨_, rfl, mkE D.erNoNumber fun d hd => k.raise (Nws.refl tabs) hd⟩⟩
      · refine ⟨_, rfl, iteF ?_⟩
        refine ⟨_, rfl, _, _, rfl, rfl, _, rfl, ?_⟩
        rw [decide_eq_true i0]
        exact iteT ⟨_, rfl, mkE D.erNoNumber fun d hd => k.raise (Nws.refl tabs) hd⟩
def spLeft (C : Addr) : Sp := fun vs H Q _ => ∃ (p : Addr) (l : Option Nat) (n : Nat), vs = [.ref p] ∧ PowAt C H p l n ∧ Q (lv l) H
theorem ok_Power_left_over (D : Defs K mg) (T : Tx K mg) : FnOk P w K mg base CX0 1 D.Power_left_over.f D.Power_left_over.fd ["self"] (spLeft D.cPower) := by
  refine D.Power_left_over.F.ok scPowerleftover (fun vs H Q E h => ?_) (fun cdv A outer s H vs Q E hr h => ?_)
  · obtain ⟨p, l, n, rfl, _⟩ := h
    rfl
  · obtain ⟨p, l, n, rfl, ⟨dx, hp⟩, k⟩ := h
    refine ⟨_, (pss_one (ps_ret (pe_fld (pv 0) rfl))), ?_⟩
    exact ⟨_, rfl, p, _, dx, _, _, rfl, hp, D.clPower, D.n_left, rfl, k⟩
def spWritten (C : Addr) : Sp := fun vs H Q _ => ∃ (p : Addr) (l : Option Nat) (n : Nat), vs = [.ref p] ∧ PowAt C H p l n ∧ Q (.int (n : Int)) H
theorem ok_Power_written (D : Defs K mg) (T : Tx K mg) : FnOk P w K mg base CX0 1 D.Power_written.f D.Power_written.fd ["self"] (spWritten D.cPower) := by
  refine D.Power_written.F.ok scPowerwritten (fun vs H Q E h => ?_) (fun cdv A outer s H vs Q E hr h => ?_)
  · obtain ⟨p, l, n, rfl, _⟩ := h
    rfl
  · obtain ⟨p, l, n, rfl, ⟨dx, hp⟩, k⟩ := h
    refine ⟨_, (pss_one (ps_ret (pe_fld (pv 0) rfl))), ?_⟩
    exact ⟨_, rfl, p, _, dx, _, _, rfl, hp, D.clPower, D.n_spent, rfl, k⟩
/-- so many of twenty numbers are written -/
def give (l : Option Nat) : Nat := match l with
  | none => 20
  | some n => min 20 n
def lessP (l : Option Nat) : Option Nat := match l with
  | none => none
  | some n => some (n - min 20 n)
def spSpend (C : Addr) : Sp := fun vs H Q _ => ∃ (p dx : Addr) (l : Option Nat) (n : Nat), vs = [.ref p, .int 20] ∧ H p = some (.ins C dx (powF l n)) ∧ Q (.int (give l : Int)) (upd H p (.ins C dx (powF (lessP l) (n + give l))))
theorem ok_Power_spend (D : Defs K mg) (T : Tx K mg) : FnOk P w K mg base CX0 1 D.Power_spend.f D.Power_spend.fd ["self", "most"] (spSpend D.cPower) := by
  refine D.Power_spend.F.ok scPowerspend (fun vs H Q E h => ?_) (fun cdv A outer s H vs Q E hr h => ?_)
  · obtain ⟨p, dx, l, n, rfl, _⟩ := h
    rfl
  · obtain ⟨p, dx, l, n, rfl, hp, k⟩ := h
    refine ⟨_, (pss_cons (ps_if (pt_cmpR op_isN (pe_fld (pv 0) rfl) pe_non (nomark _)) (pss_one (ps_set (i := 2) scPowerspend.nd rfl (Or.inl rfl) (pv 1))) (pss_cons (ps_set (i := 2) scPowerspend.nd rfl (Or.inl rfl) (pe_callB (call_min2 rfl) (by rfl) T.b_min (by decide +kernel) (pa_cons (pv 1) (pa_cons (pe_fld (pv 0) rfl) pa_nil))))
        (pss_one (ps_fldaug (pv 0) (pv 2) in_sub))))
        (pss_cons (ps_fldaug (pv 0) (pv 2) in_add)
        (pss_one (ps_ret (pv 2))))), ?_⟩
    refine ⟨_, rfl, p, _, dx, _, _, rfl, hp, D.clPower, D.n_left, rfl, rfl, _, rfl, ?_⟩
    cases l with
    | none =>
      rw [show decide (lv none = V.non) = true from decide_eq_true rfl]
      refine iteT ⟨_, rfl, ?_⟩
      refine ⟨_, rfl, p, _, dx, _, _, rfl, hp, D.clPower, D.n_spent, rfl, _, rfl, _, _, rfl, rfl, dx, _, hp, (by show 2 < 1000; decide), ?_⟩
      exact ⟨_, rfl, k⟩
    | some m =>
      rw [show decide (lv (some m) = V.non) = false from decide_eq_false (fun z => by cases z)]
      refine iteF ⟨_, rfl, _, rfl, p, _, dx, _, _, rfl, hp, D.clPower, D.n_left, rfl, _, _, rfl, ?_⟩
      have e : (if (m : Int) < (20 : Int) then (m : Int) else 20) = ((min 20 m : Nat) : Int) := by
        split <;> omega
      rw [e]
      have e2 : (m : Int) - ((min 20 m : Nat) : Int) = ((m - min 20 m : Nat) : Int) := by omega
      refine ⟨_, rfl, p, _, dx, _, _, rfl, hp, D.clPower, D.n_left, rfl, _, rfl, _, _, rfl, rfl, dx, _, hp, (by show 2 < 1000; decide), ?_⟩
      rw [e2]
      refine ⟨_, rfl, p, _, dx, _, _, rfl, upd_same, D.clPower, D.n_spent, rfl, _, rfl, _, _, rfl, rfl, dx, _, upd_same, (by show 2 < 1000; decide), ?_⟩
      rw [upd_upd]
      exact ⟨_, rfl, k⟩
/-! ### disks -/
/-- at p: a disk, its pages in the list at ls -/
def DiskAt (C : Addr) (H : Hp) (p ls : Addr) (as : List Addr) : Prop := ∃ dx, H p = some (.ins C dx [("_pages", .ref ls)]) ∧ H ls = some (.lst (as.map V.ref))
theorem DiskAt.nws {C p ls : Addr} {as : List Addr} {Ts : List Addr} {H H' : Hp} (n : Nws Ts H H') (h : DiskAt C H p ls as) : DiskAt C H' p ls as := by
  obtain ⟨dx, h1, h2⟩ := h
  exact ⟨dx, n.get h1 (fun q z => by cases z), n.lst h2⟩
theorem within_many {n : Nat} (h1 : 4 ≤ n) (h2 : n ≤ 512) : within (.int (n : Int)) 4 512 = true := by
  simp only [within, Bool.and_eq_true, decide_eq_true_eq]
  omega
def spDiskI (K : PySem.W.Frag) (C N : Addr) (Ts : List Addr) : Sp := fun vs H Q E => ∃ (p dx : Addr) (x : V), vs = [.ref p, x] ∧ H p = some (.ins C dx []) ∧ (∀ R ∈ Ts, GxR.TabG H R) ∧
  ((∃ m : Nat, x = .int (m : Int) ∧ 4 ≤ m ∧ m ≤ 512 ∧ ∀ (ls B : Addr) (H1 : Hp), Exd H H1 → H ls = none → H1 ls = some (.lst ((List.replicate m B).map V.ref)) → H1 B = some (.tup (numV blankN)) → Q .non (upd H1 p (.ins C dx [("_pages", .ref ls)]))) ∨
   (Thing K H x ∧ within x 4 512 = false ∧ RaiW Ts N x H E))
theorem ok_Disk___init__ (D : Defs K mg) (T : Tx K mg) : FnOk P w K mg base (CX P w) 4 D.Disk___init__.f D.Disk___init__.fd ["self", "many"] (spDiskI K D.cDisk D.erNoDisk.C [t1, t2]) := by
  have GNoDisk___init__ := ok_NoDisk___init__ (P := P) (w := w) (base := base) D T
  have Gis_within := ok_is_within (P := P) (w := w) (base := base) D T
  have Gblank_page := ok_blank_page (P := P) (w := w) (base := base) D T
  have GNoDisk___init__ := ok_NoDisk___init__ (P := P) (w := w) (base := base) D T
  refine D.Disk___init__.F.okX scDiskinit (fun vs H Q E h => ?_) (fun cdv A outer s H vs Q E hr h => ?_)
  · obtain ⟨p, dx, x, rfl, _⟩ := h
    rfl
  · obtain ⟨p, dx, x, rfl, hp, tabs, k⟩ := h
    refine ⟨_, (pss_cons (ps_if (pt_not (pt_val (pcall D.is_within Gis_within hr (by decide) (by rfl) (pa_cons (pv 1) (pa_cons (pe_glob (v := .int 4) (by rfl) T.g_LEAST_PAGES ⟨_, rfl⟩) (pa_cons (pe_glob (v := .int 512) (by rfl) T.g_MOST_PAGES ⟨_, rfl⟩) pa_nil)))))) (pss_one (ps_raise rfl (takes_of rfl rfl rfl rfl) (pmkE D.erNoDisk GNoDisk___init__ rfl rfl rfl rfl rfl hr (by decide) (by rfl) (pa_cons (pv 1) pa_nil)))) pss_nil)
        (pss_one (ps_fld (pv 0) (pe_op op_rep (pe_lst (pa_cons (pcall0 D.blank_page Gblank_page hr (by decide) (by rfl)) pa_nil)) (pv 1)) rfl))), ?_⟩
    rcases k with ⟨m, rfl, m4, m5, k⟩ | ⟨th, no, k⟩
    · refine ⟨_, rfl, _, _, _, rfl, .int _, ?_⟩
      rw [within_many m4 m5]
      refine ⟨_, rfl, iteF ?_⟩
      refine ⟨rfl, fun B H1 x1 w1 => ?_⟩
      refine ⟨(by show 1 ≤ sizeLine; decide), fun l hl => ?_⟩
      generalize hG : upd _ _ _ = H2
      obtain ⟨x2, w2⟩ := obj_of hl hG
      clear hG
      have sz : [V.ref B].length * (m : Int).toNat ≤ sizeLine := by
        show 1 * m ≤ sizeLine
        have := PySem.sizeLine_eq
        omega
      refine ⟨_, rfl, _, _, _, rfl, rfl, w2, by omega, by omega, sz, fun ls hls => ?_⟩
      generalize hG : upd _ _ _ = H3
      obtain ⟨x3, w3⟩ := obj_of hls hG
      clear hG
      have x13 := (x1.trans x2).trans x3
      refine ⟨_, rfl, p, D.cDisk, dx, [], rfl, x13 _ _ hp, D.clDisk, D.n_pages, (by show 0 < 1000; decide), ?_⟩
      refine k ls B H3 x13 ((x1.trans x2).free hls) ?_ ((x2.trans x3) _ _ w1)
      rw [w3]
      have e : (m : Int).toNat = m := rfl
      rw [e]
      rw [List.flatten_replicate_singleton, List.map_replicate]
    · refine ⟨_, rfl, _, _, _, rfl, th, ?_⟩
      rw [no]
      exact ⟨_, rfl, iteT ⟨_, rfl, mkE D.erNoDisk fun d hd => k.raise (Nws.refl tabs) hd⟩⟩
def spHowMany (C : Addr) : Sp := fun vs H Q _ => ∃ (p ls : Addr) (as : List Addr), vs = [.ref p] ∧ DiskAt C H p ls as ∧ Q (.int (as.length : Nat)) H
theorem ok_Disk_how_many (D : Defs K mg) (T : Tx K mg) : FnOk P w K mg base CX0 1 D.Disk_how_many.f D.Disk_how_many.fd ["self"] (spHowMany D.cDisk) := by
  refine D.Disk_how_many.F.ok scDiskhowmany (fun vs H Q E h => ?_) (fun cdv A outer s H vs Q E hr h => ?_)
  · obtain ⟨p, ls, as, rfl, _⟩ := h
    rfl
  · obtain ⟨p, ls, as, rfl, ⟨dx, h1, h2⟩, k⟩ := h
    refine ⟨_, (pss_one (ps_ret (pe_callB call_len_seq (by rfl) T.b_len (by decide +kernel) (pa_cons (pe_fld (pv 0) rfl) pa_nil)))), ?_⟩
    refine ⟨_, rfl, p, _, dx, _, _, rfl, h1, D.clDisk, D.n_pages, rfl, ls, _, rfl, .inl (SqL.of h2), ?_⟩
    rw [List.length_map]
    exact k
def spPages (C : Addr) : Sp := fun vs H Q _ => ∃ (p ls : Addr) (as : List Addr), vs = [.ref p] ∧ DiskAt C H p ls as ∧ ∀ l H', Exd H H' → H l = none → H' l = some (.lst (as.map V.ref)) → Q (.ref l) H'
theorem ok_Disk_pages (D : Defs K mg) (T : Tx K mg) : FnOk P w K mg base CX0 1 D.Disk_pages.f D.Disk_pages.fd ["self"] (spPages D.cDisk) := by
  refine D.Disk_pages.F.ok scDiskpages (fun vs H Q E h => ?_) (fun cdv A outer s H vs Q E hr h => ?_)
  · obtain ⟨p, ls, as, rfl, _⟩ := h
    rfl
  · obtain ⟨p, ls, as, rfl, ⟨dx, h1, h2⟩, k⟩ := h
    refine ⟨_, (pss_one (ps_ret (pe_callTy call_list_of (by rfl) T.b_list (by decide +kernel) (pa_cons (pe_fld (pv 0) rfl) pa_nil)))), ?_⟩
    exact ⟨_, rfl, p, _, dx, _, _, rfl, h1, D.clDisk, D.n_pages, rfl, ls, _, rfl, .inl (SqL.of h2), fun l hl => k l _ ((Exd.refl H).new hl) hl upd_same⟩
def spPageAt (K : PySem.W.Frag) (C N : Addr) (Ts : List Addr) : Sp := fun vs H Q E => ∃ (p ls : Addr) (as : List Addr) (x : V), vs = [.ref p, x] ∧ DiskAt C H p ls as ∧ (∀ R ∈ Ts, GxR.TabG H R) ∧
  ((∃ (i : Nat) (a : Addr), x = .int (i : Int) ∧ as[i]? = some a ∧ Q (.ref a) H) ∨ (Thing K H x ∧ within x 0 ((as.length : Int) - 1) = false ∧ RaiW Ts N x H E))
theorem ok_Disk_page_at (D : Defs K mg) (T : Tx K mg) : FnOk P w K mg base (CX P w) 4 D.Disk_page_at.f D.Disk_page_at.fd ["self", "number"] (spPageAt K D.cDisk D.erNoPage.C [t1, t2]) := by
  have GNoPage___init__ := ok_NoPage___init__ (P := P) (w := w) (base := base) D T
  have Gis_within := ok_is_within (P := P) (w := w) (base := base) D T
  have GNoPage___init__ := ok_NoPage___init__ (P := P) (w := w) (base := base) D T
  refine D.Disk_page_at.F.okX scDiskpageat (fun vs H Q E h => ?_) (fun cdv A outer s H vs Q E hr h => ?_)
  · obtain ⟨p, ls, as, x, rfl, _⟩ := h
    rfl
  · obtain ⟨p, ls, as, x, rfl, ⟨dx, h1, h2⟩, tabs, k⟩ := h
    refine ⟨_, (pss_cons (ps_if (pt_not (pt_val (pcall D.is_within Gis_within hr (by decide) (by rfl) (pa_cons (pv 1) (pa_cons pe_int (pa_cons (pe_op op_sub (pe_callB call_len_seq (by rfl) T.b_len (by decide +kernel) (pa_cons (pe_fld (pv 0) rfl) pa_nil)) pe_int) pa_nil)))))) (pss_one (ps_raise rfl (takes_of rfl rfl rfl rfl) (pmkE D.erNoPage GNoPage___init__ rfl rfl rfl rfl rfl hr (by decide) (by rfl) (pa_cons (pv 1) pa_nil)))) pss_nil)
        (pss_one (ps_ret (pe_ix ix_list (pe_fld (pv 0) rfl) (pv 1) (fun _ _ => rfl))))), ?_⟩
    have ln : (((as.map V.ref).length : Nat) : Int) = (as.length : Int) := by rw [List.length_map]
    refine ⟨_, rfl, _, rfl, p, _, dx, _, _, rfl, h1, D.clDisk, D.n_pages, rfl, ls, _, rfl, .inl (SqL.of h2), _, _, rfl, rfl, ?_⟩
    rcases k with ⟨i, a, rfl, hi, k⟩ | ⟨th, no, k⟩
    · refine ⟨_, _, _, rfl, .int _, ?_⟩
      have hl := (List.getElem?_eq_some_iff.mp hi).1
      have wi : within (.int (i : Int)) 0 ((((as.map V.ref).length : Nat) : Int) - 1) = true := by
        rw [ln]
        simp only [within, Bool.and_eq_true, decide_eq_true_eq]
        omega
      rw [wi]
      refine ⟨_, rfl, iteF ?_⟩
      have hx : (as.map V.ref)[i]? = some (.ref a) := by rw [List.getElem?_map, hi]; rfl
      exact ⟨_, rfl, p, _, dx, _, _, rfl, h1, D.clDisk, D.n_pages, rfl, _, rfl, ls, _, _, _, rfl, rfl, SqL.of h2, atI_nat hx, k⟩
    · refine ⟨_, _, _, rfl, th, ?_⟩
      rw [ln, no]
      exact ⟨_, rfl, iteT ⟨_, rfl, mkE D.erNoPage fun d hd => k.raise (Nws.refl tabs) hd⟩⟩
end
end LL
namespace LL
open PySem PySem.Spec PyProof.Rows L2
/-- the numbers of a root's page -/
def rootW (c M : Nat) : List Nat := [c, 1] ++ wordsM M ++ [chkN ([c, 1] ++ wordsM M), c]
theorem numV_app (a b : List Nat) : numV a ++ numV b = numV (a ++ b) := by
  unfold numV
  rw [List.map_append]
theorem cB_32 : cB = 2 ^ 32 := by
  rw [cB_eq]
theorem Bx.ne {H : Hp} {p q : Addr} (b : Bx H p) (h : H q = none) : q ≠ p := fun z => by
  obtain ⟨o, e, _⟩ := b
  rw [z, e] at h
  cases h
section
variable {P : Program} {w : World} {K : PySem.W.Frag} {mg : Str → Option Value} {base : Heap} {c1 c2 t1 t2 : Addr}
def spCount : Sp := fun vs H Q _ => ∃ (a : Addr), vs = [.ref a] ∧ Bx H a ∧ ∀ (n : Nat) H', 1 ≤ n → n < cB → Kept a H H' → Q (.int (n : Int)) H'
theorem ok__law_count (D : Defs K mg) (T : Tx K mg) : FnOk P w K mg base CX0 2 D._law_count.f D._law_count.fd ["_law_box_here"] spCount := by
  have G_law_take := ok__law_take (P := P) (w := w) (base := base) D T
  refine D._law_count.F.ok scLcount (fun vs H Q E h => ?_) (fun cdv A outer s H vs Q E hr h => ?_)
  · obtain ⟨a, rfl, _⟩ := h
    rfl
  · obtain ⟨a, rfl, bx, k⟩ := h
    refine ⟨_, (pss_one (ps_ret (pe_ix ix_list (pe_lst (pa_cons pe_int (pa_cons pe_int (pa_cons pe_int (pa_cons (pe_op op_add pe_int (pcall D._law_take G_law_take hr (by decide) (by rfl) (pa_cons (pv 0) (pa_cons pe_int pa_nil)))) (pa_cons (pe_op op_add pe_int (pcall D._law_take G_law_take hr (by decide) (by rfl) (pa_cons (pv 0) (pa_cons pe_int pa_nil)))) pa_nil)))))) (pcall D._law_take G_law_take hr (by decide) (by rfl) (pa_cons (pv 0) (pa_cons pe_int pa_nil))) (fun _ _ => rfl)))), ?_⟩
    refine ⟨_, rfl, a, 4294967295, rfl, bx, by decide, by decide, fun r H1 r0 r1 k1 => ?_⟩
    obtain ⟨n1, rfl⟩ := int_of r0
    refine ⟨_, _, rfl, rfl, ?_⟩
    refine ⟨_, rfl, a, 9, rfl, k1.bx, by decide, by decide, fun r2 H2 r20 r21 k2 => ?_⟩
    obtain ⟨n2, rfl⟩ := int_of r20
    refine ⟨_, _, rfl, rfl, (by show 5 ≤ sizeLine; decide), fun l hl => ?_⟩
    generalize hG : upd _ _ _ = H4
    obtain ⟨x4, w4⟩ := obj_of hl hG
    clear hG
    have kk := (k1.trans k2).trans (x4.kept k2.bx)
    refine ⟨_, rfl, a, 5, rfl, kk.bx, by decide, by decide, fun m H5 m0 m1 k5 => ?_⟩
    have w5 := k5.getN w4 (k1.trans k2).bx hl
    obtain ⟨v, hv, mem⟩ := at_mem (xs := [.int 1, .int 2, .int 4294967295, .int (1 + (n1 : Int)), .int (1 + (n2 : Int))]) m0 m1
    have al : ∃ n : Nat, v = .int (n : Int) ∧ 1 ≤ n ∧ n < cB := by
      rw [cB_eq]
      simp only [List.mem_cons, List.not_mem_nil, or_false] at mem
      rcases mem with rfl | rfl | rfl | rfl | rfl
      · exact ⟨1, rfl, by omega, by omega⟩
      · exact ⟨2, rfl, by omega, by omega⟩
      · exact ⟨4294967295, rfl, by omega, by omega⟩
      · exact ⟨1 + n1, congrArg V.int (by omega), by omega, by omega⟩
      · exact ⟨1 + n2, congrArg V.int (by omega), by omega, by omega⟩
    obtain ⟨n, rfl, l1, ln⟩ := al
    exact ⟨l, _, _, _, rfl, rfl, SqL.of w5, hv, k n _ l1 ln (kk.trans k5)⟩
def spMany : Sp := fun vs H Q _ => ∃ (a : Addr), vs = [.ref a] ∧ Bx H a ∧ ∀ (n : Nat) H', 4 ≤ n → n ≤ 512 → Kept a H H' → Q (.int (n : Int)) H'
theorem ok__law_many (D : Defs K mg) (T : Tx K mg) : FnOk P w K mg base CX0 2 D._law_many.f D._law_many.fd ["_law_box_here"] spMany := by
  have G_law_take := ok__law_take (P := P) (w := w) (base := base) D T
  refine D._law_many.F.ok scLmany (fun vs H Q E h => ?_) (fun cdv A outer s H vs Q E hr h => ?_)
  · obtain ⟨a, rfl, _⟩ := h
    rfl
  · obtain ⟨a, rfl, bx, k⟩ := h
    refine ⟨_, (pss_one (ps_ret (pe_ix ix_list (pe_lst (pa_cons pe_int (pa_cons (pe_op op_add pe_int (pcall D._law_take G_law_take hr (by decide) (by rfl) (pa_cons (pv 0) (pa_cons pe_int pa_nil)))) (pa_cons pe_int (pa_cons (pe_op op_add pe_int (pcall D._law_take G_law_take hr (by decide) (by rfl) (pa_cons (pv 0) (pa_cons pe_int pa_nil)))) (pa_cons pe_int pa_nil)))))) (pcall D._law_take G_law_take hr (by decide) (by rfl) (pa_cons (pv 0) (pa_cons pe_int pa_nil))) (fun _ _ => rfl)))), ?_⟩
    refine ⟨_, rfl, a, 40, rfl, bx, by decide, by decide, fun r H1 r0 r1 k1 => ?_⟩
    obtain ⟨n1, rfl⟩ := int_of r0
    refine ⟨_, _, rfl, rfl, ?_⟩
    refine ⟨_, rfl, a, 509, rfl, k1.bx, by decide, by decide, fun r2 H2 r20 r21 k2 => ?_⟩
    obtain ⟨n2, rfl⟩ := int_of r20
    refine ⟨_, _, rfl, rfl, (by show 5 ≤ sizeLine; decide), fun l hl => ?_⟩
    generalize hG : upd _ _ _ = H4
    obtain ⟨x4, w4⟩ := obj_of hl hG
    clear hG
    have kk := (k1.trans k2).trans (x4.kept k2.bx)
    refine ⟨_, rfl, a, 5, rfl, kk.bx, by decide, by decide, fun m H5 m0 m1 k5 => ?_⟩
    have w5 := k5.getN w4 (k1.trans k2).bx hl
    obtain ⟨v, hv, mem⟩ := at_mem (xs := [.int 4, .int (5 + (n1 : Int)), .int 512, .int (4 + (n2 : Int)), .int 33]) m0 m1
    have al : ∃ n : Nat, v = .int (n : Int) ∧ 4 ≤ n ∧ n ≤ 512 := by
      simp only [List.mem_cons, List.not_mem_nil, or_false] at mem
      rcases mem with rfl | rfl | rfl | rfl | rfl
      · exact ⟨4, rfl, by omega, by omega⟩
      · exact ⟨5 + n1, congrArg V.int (by omega), by omega, by omega⟩
      · exact ⟨512, rfl, by omega, by omega⟩
      · exact ⟨4 + n2, congrArg V.int (by omega), by omega, by omega⟩
      · exact ⟨33, rfl, by omega, by omega⟩
    obtain ⟨n, rfl, l1, ln⟩ := al
    exact ⟨l, _, _, _, rfl, rfl, SqL.of w5, hv, k n _ l1 ln (kk.trans k5)⟩
/-- used pages as they are drawn -/
structure UsD (us : List Nat) (m : Nat) : Prop where
  nd : us.Nodup
  lo : ∀ n ∈ us, 2 ≤ n ∧ n < m
def spUsed : Sp := fun vs H Q _ => ∃ (a : Addr) (m : Nat), vs = [.ref a, .int (m : Int)] ∧ Bx H a ∧ 4 ≤ m ∧ m ≤ 512 ∧ ∀ (p : Addr) (us : List Nat) H', Rise us → (∀ n ∈ us, 2 ≤ n ∧ n < m) → us.length ≤ 50 → H p = none → Kept a H H' → H' p = some (.lst (numV us)) → Q (.ref p) H'
theorem ok__law_used (D : Defs K mg) (T : Tx K mg) : FnOk P w K mg base CX0 3 D._law_used.f D._law_used.fd ["_law_box_here", "_law_many_here"] spUsed := by
  have G_law_take := ok__law_take (P := P) (w := w) (base := base) D T
  refine D._law_used.F.ok scLused (fun vs H Q E h => ?_) (fun cdv A outer s H vs Q E hr h => ?_)
  · obtain ⟨a, m, rfl, _⟩ := h
    rfl
  · obtain ⟨a, m, rfl, bx, m4, m512, k⟩ := h
    refine ⟨_, (pss_cons (ps_set (i := 2) scLused.nd rfl (Or.inr rfl) (pe_lc (own := [("_law_number", 3)]) (g := gName 3) (tt := tYes) rfl scLused.nd (pi_range2 rfl T.b_range (pa_cons pe_int (pa_cons (pe_callB (call_min2 rfl) (by rfl) T.b_min (by decide +kernel) (pa_cons (pv 1) (pa_cons (pe_op op_add pe_int (pcall D._law_take G_law_take hr (by decide) (by rfl) (pa_cons (pv 0) (pa_cons pe_int pa_nil)))) pa_nil))) pa_nil))) (blkOk_by (N := scLused_N) (sc := defScope scLused_st) (by decide +kernel)) (fun _ _ _ _ _ => (pg_name (i := 3) scLused.nd rfl (Or.inl rfl))) (fun _ _ _ _ _ => pts_nil) (fun _ _ _ _ _ => (pcall D._law_take G_law_take hr (by decide) (by rfl) (pa_cons (pv 0) (pa_cons pe_int pa_nil))))))
        (pss_cons (ps_setLc (i := 4) (own := [("_law_number", 3)]) (g := gName 3) rfl scLused.nd rfl rfl (sw_true rfl rfl rfl (by decide +kernel)) (pi_range1 rfl T.b_range (pa_cons (pe_callB call_len_seq (by rfl) T.b_len (by decide +kernel) (pa_cons (pv 2) pa_nil)) pa_nil)) (blkOk_by (N := scLused_N) (sc := defScope scLused_st) (by decide +kernel)) (fun _ _ _ _ _ => (pg_name (i := 3) scLused.nd rfl (Or.inl rfl))) (fun _ _ _ _ _ => pts_one (pt_cmpR op_eq (pe_ix (ix_listK (K := K) rfl) (pv 2) (pv 3) (fun _ _ => rfl)) pe_int (nomark _))) (fun _ _ _ _ _ => (pe_op op_add (pv 3) pe_int)))
        (pss_cons (ps_for PassesOwn.never rfl (pi_range1 rfl T.b_range (pa_cons (pcall D._law_take G_law_take hr (by decide) (by rfl) (pa_cons (pv 0) (pa_cons pe_int pa_nil))) pa_nil)) (pg_name (i := 5) scLused.nd rfl (Or.inl rfl)) (pss_cons (ps_set (i := 3) scLused.nd rfl (Or.inl rfl) (pe_ix ix_list (pe_lst (pa_cons (pe_op op_sub (pv 1) pe_int) (pa_cons pe_int (pa_cons (pe_op op_add pe_int (pcall D._law_take G_law_take hr (by decide) (by rfl) (pa_cons (pv 0) (pa_cons (pe_op op_sub (pv 1) pe_int) pa_nil)))) pa_nil)))) (pcall D._law_take G_law_take hr (by decide) (by rfl) (pa_cons (pv 0) (pa_cons pe_int pa_nil))) (fun _ _ => rfl)))
        (pss_one (ps_if (pt_cmpR op_notIn_seq (pv 3) (pv 4) (by rfl)) (pss_one (ps_expr (pe_bm PySem.F.plainAttrs_list PySem.F.slot_list_append PySem.F.type_list_append mt_append (pv 4) (pa_cons (pv 3) pa_nil)))) pss_nil))))
        (pss_one (ps_ret (pe_callB cr_sorted (by rfl) T.b_sorted (by decide +kernel) (pa_cons (pv 4) pa_nil))))))), ?_⟩
    have hst : L2.start scLused_N [V.ref a, V.int (m : Int)] = [some (.ref a), some (.int (m : Int)), none, none, none, none] := rfl
    rw [hst]
    have sl : ∀ n : Nat, n ≤ 1000 → n < sizeLine := fun n hn => by
      have := PySem.sizeLine_eq
      omega
    refine ⟨_, rfl, _, rfl, a, 40, rfl, bx, by decide, by decide, fun r H1 r0 r1 k1 => ?_⟩
    obtain ⟨r, rfl⟩ := int_of r0
    refine ⟨_, _, rfl, rfl, _, _, rfl, ?_⟩
    obtain ⟨z, hz, z1, z2⟩ : ∃ z : Nat, (if 2 + (r : Int) < (m : Int) then 2 + (r : Int) else (m : Int)) = ((2 + z : Nat) : Int) ∧ z < 40 ∧ 2 + z ≤ m := by
      by_cases c : 2 + (r : Int) < (m : Int)
      · rw [if_pos c]
        exact ⟨r, by omega, by omega, by omega⟩
      · rw [if_neg c]
        exact ⟨m - 2, by omega, by omega, by omega⟩
    rw [hz]
    refine ⟨_, _, rfl, ⟨by decide, by decide, by omega, by omega⟩, fun D1 hD1 => ?_⟩
    have nz : (((2 + z : Nat) : Int) - 2).toNat = z := by omega
    refine lc_range (lo := 2) (n := (((2 + z : Nat) : Int) - 2).toNat) (fun j H' => ∃ rs : List Int, rs.length = j ∧ Kept a H1 H' ∧ H' D1 = some (.lst (rs.map V.int))) ⟨[], rfl, (Kept.refl k1.bx).new hD1, upd_same⟩ ?_ ?_
    · rintro j H' hj ⟨rs, lr, kp, w1⟩
      rw [nz] at hj
      refine ⟨rfl, ?_⟩
      refine ⟨_, rfl, a, 2, rfl, kp.bx, by decide, by decide, fun b H3 b0 b1 k3 => ?_⟩
      have na := k1.bx.ne hD1
      have w3 := k3.old _ _ na w1
      refine ⟨_, w3, sl _ (by rw [List.length_map, lr]; omega), rs ++ [b], by rw [List.length_append, lr]; rfl, (kp.trans k3).put hD1 na, ?_⟩
      rw [upd_same, List.map_append]
      rfl
    · rintro H2 ⟨rs, lr, kp, w2⟩
      rw [nz] at lr
      have na := k1.bx.ne hD1
      have kk := k1.trans kp
      refine gset (by (simp only [List.set_cons_succ, List.set_cons_zero]); rfl) ?_
      refine ⟨_, rfl, D1, _, rfl, .inl (SqL.of w2), ?_⟩
      have lr2 : (((rs.map V.int).length : Nat) : Int) = (z : Int) := by rw [List.length_map, lr]
      rw [lr2]
      refine ⟨_, rfl, by omega, by omega, fun D2 hD2 => ?_⟩
      have ne12 : D1 ≠ D2 := ne_of_none w2 hD2
      refine lc_range (lo := 0) (n := (z : Int).toNat) (fun j H' => ∃ us : List Nat, us.Nodup ∧ us.length ≤ j ∧ (∀ n ∈ us, 2 ≤ n ∧ n < 2 + j) ∧ Exd H2 H' ∧ H' D2 = some (.lst (numV us))) ⟨[], List.nodup_nil, Nat.le_refl _, (fun n hn => nomatch hn), (Exd.refl H2).new hD2, upd_same⟩ ?_ ?_
      · rintro j H' hj ⟨us, nd, lu, lo, x3, w3⟩
        have hj : j < z := hj
        refine ⟨rfl, ?_⟩
        have hr : (rs.map V.int)[j]? = some (.int rs[j]) := by rw [List.getElem?_map, List.getElem?_eq_getElem (by omega)]; rfl
        have hix : atI (rs.map V.int) (0 + (j : Int)) = some (.int rs[j]) := by rw [Int.zero_add]; exact atI_nat hr
        refine ⟨_, rfl, _, rfl, D1, _, _, _, rfl, rfl, SqL.of (x3 _ _ w2), hix, rfl, _, rfl, ?_⟩
        by_cases c : V.int rs[j] = V.int 1
        · rw [decide_eq_true c]
          refine iteT ⟨_, rfl, _, _, rfl, rfl, _, w3, sl _ (by rw [numV_len]; omega), us ++ [j + 2], ?_, ?_, ?_, ?_, ?_⟩
          · rw [List.nodup_append]
            refine ⟨nd, by simp, fun x hx y hy e => ?_⟩
            have h1 := lo x hx
            have h2 := List.mem_singleton.mp hy
            omega
          · rw [List.length_append]
            show us.length + 1 ≤ j + 1
            omega
          · intro n hn
            rcases List.mem_append.mp hn with hn | hn
            · have := lo n hn
              omega
            · have := List.mem_singleton.mp hn
              omega
          · exact fun b o hb => by rw [upd_ne (ne_of_none hb hD2)]; exact x3 _ _ hb
          · rw [upd_same, ← numV_app]
            have e : V.int (0 + (j : Int) + 2) = V.int ((j + 2 : Nat) : Int) := congrArg V.int (by omega)
            show some (HO.lst (_ ++ [V.int (0 + (j : Int) + 2)])) = _
            rw [e]
            rfl
        · rw [decide_eq_false c]
          exact iteF ⟨us, nd, by omega, fun n hn => by have := lo n hn; omega, x3, w3⟩
      · rintro H3 ⟨us, nd, lu, lo, x3, w3⟩
        have lu : us.length ≤ z := lu
        have lo : ∀ n ∈ us, 2 ≤ n ∧ n < 2 + z := lo
        have kk3 := kk.trans (x3.kept kk.bx)
        have na2 : D2 ≠ a := kk.bx.ne hD2
        have hf2 : H D2 = none := kk.free hD2
        refine gset (by (simp only [List.set_cons_succ, List.set_cons_zero]); rfl) ?_
        refine ⟨_, rfl, a, 6, rfl, kk3.bx, by decide, by decide, fun b H4 b0 b1 k4 => ?_⟩
        obtain ⟨b, rfl⟩ := int_of b0
        have kk4 := kk3.trans k4
        have w4 := k4.old _ _ na2 w3
        refine ⟨_, rfl, by omega, by omega, for_range (lo := 0) (fun i σ H' => ∃ v3 v5, σ = [some (.ref a), some (.int (m : Int)), some (.ref D1), v3, some (.ref D2), v5] ∧ ∃ us : List Nat, us.Nodup ∧ us.length ≤ 40 + i ∧ (∀ n ∈ us, 2 ≤ n ∧ n < m) ∧ Kept a H H' ∧ H' D2 = some (.lst (numV us)))
          ⟨_, _, rfl, us, nd, by omega, fun n hn => by have := lo n hn; omega, kk4, w4⟩ ?_ ?_⟩
        · rintro i σ H5 hi ⟨v3, v5, rfl, us, nd, lu, lo, k5, w5⟩
          have hi : i < b := hi
          refine gset (by (simp only [List.set_cons_succ, List.set_cons_zero]); rfl) ?_
          refine ⟨_, rfl, _, _, rfl, rfl, ?_⟩
          refine ⟨_, rfl, _, rfl, _, _, rfl, rfl, a, (m : Int) - 2, rfl, k5.bx, by omega, by omega, fun q H6 q0 q1 k6 => ?_⟩
          obtain ⟨q, rfl⟩ := int_of q0
          refine ⟨_, _, rfl, rfl, (by show 3 ≤ sizeLine; decide), fun l hl => ?_⟩
          generalize hG : upd _ _ _ = H7
          obtain ⟨x7, w7⟩ := obj_of hl hG
          clear hG
          have k57 := k6.trans (x7.kept k6.bx)
          refine ⟨_, rfl, a, 3, rfl, k57.bx, by decide, by decide, fun y H8 y0 y1 k8 => ?_⟩
          have w8 := k8.getN w7 k6.bx hl
          obtain ⟨v, hv, mem⟩ := at_mem (xs := [.int ((m : Int) - 1), .int 2, .int (2 + (q : Int))]) y0 y1
          have al : ∃ n : Nat, v = .int (n : Int) ∧ 2 ≤ n ∧ n < m := by
            simp only [List.mem_cons, List.not_mem_nil, or_false] at mem
            rcases mem with rfl | rfl | rfl
            · exact ⟨m - 1, congrArg V.int (by omega), by omega, by omega⟩
            · exact ⟨2, rfl, by omega, by omega⟩
            · exact ⟨2 + q, congrArg V.int (by omega), by omega, by omega⟩
          obtain ⟨n, rfl, ln, hn⟩ := al
          refine ⟨l, _, _, _, rfl, rfl, SqL.of w8, hv, ?_⟩
          refine gset (by (simp only [List.set_cons_succ, List.set_cons_zero]); rfl) ?_
          have kk8 := (k5.trans k57).trans k8
          have w5' : H8 D2 = some (.lst (numV us)) := (k57.trans k8).old _ _ na2 w5
          refine ⟨_, rfl, _, rfl, D2, _, rfl, .inl (SqL.of w5'), rfl, ?_, ?_⟩
          · rw [List.all_eq_true]
            intro u hu
            obtain ⟨n', _, rfl⟩ := List.mem_map.mp hu
            rfl
          · have e : inV (.int (n : Int)) (numV us) = decide (n ∈ us) := by
              unfold inV numV
              rw [List.any_map, Bool.eq_iff_iff, List.any_eq_true, decide_eq_true_eq]
              constructor
              · rintro ⟨x, hx, e⟩
                have e : eqV (.int (x : Int)) (.int (n : Int)) = true := e
                have : (x : Int) = n := by simpa [eqV] using e
                have : x = n := by omega
                rw [← this]
                exact hx
              · intro hx
                exact ⟨n, hx, by simp [eqV]⟩
            rw [if_pos rfl, e]
            by_cases c : n ∈ us
            · rw [decide_eq_true c]
              exact ⟨_, rfl, iteF ⟨_, _, rfl, us, nd, by omega, lo, kk8, w5'⟩⟩
            · rw [decide_eq_false c]
              refine ⟨_, rfl, iteT ⟨_, rfl, .inl ⟨rfl, _, SqL.of w5'⟩, _, rfl, D2, _, _, rfl, rfl, w5', sl _ (by rw [numV_len]; omega), _, _, rfl, us ++ [n], ?_, ?_, ?_, kk8.put hf2 na2, ?_⟩⟩
              · rw [List.nodup_append]
                refine ⟨nd, by simp, fun x hx y hy e => ?_⟩
                rw [List.mem_singleton.mp hy] at e
                rw [e] at hx
                exact c hx
              · rw [List.length_append]
                show us.length + 1 ≤ 40 + (i + 1)
                omega
              · intro n' hn'
                rcases List.mem_append.mp hn' with hn' | hn'
                · exact lo n' hn'
                · rw [List.mem_singleton.mp hn']
                  exact ⟨ln, hn⟩
              · rw [upd_same, ← numV_app]
                rfl
        · rintro σ H5 ⟨v3, v5, rfl, us, nd, lu, lo, k5, w5⟩
          have lu : us.length ≤ 40 + b := lu
          refine ⟨_, rfl, D2, us.map fun n : Nat => (n : Int), rfl, SqL.of (by rw [List.map_map]; exact w5), by rw [List.length_map]; omega, fun ns' p perm sorted hp => ?_⟩
          obtain ⟨vs, rfl, pv⟩ : ∃ vs : List Nat, ns' = vs.map (fun n : Nat => (n : Int)) ∧ vs.Perm us := by
            refine ⟨ns'.map Int.toNat, ?_, ?_⟩
            · rw [List.map_map]
              conv => lhs; rw [← List.map_id ns']
              apply List.map_congr_left
              intro x hx
              obtain ⟨n, _, rfl⟩ := List.mem_map.mp (perm.mem_iff.mp hx)
              rfl
            · have := perm.map Int.toNat
              rw [List.map_map] at this
              have e : us.map (Int.toNat ∘ fun n : Nat => (n : Int)) = us := by
                conv => rhs; rw [← List.map_id us]
                apply List.map_congr_left
                intro n _
                rfl
              rw [e] at this
              exact this
          have rise : Rise vs := by
            have h1 : vs.Pairwise (· ≤ ·) := by
              rw [List.pairwise_map] at sorted
              exact sorted.imp fun h => by omega
            have h2 : vs.Pairwise (· ≠ ·) := pv.nodup_iff.mpr nd
            exact (h1.and h2).imp fun h => by omega
          refine k p vs _ rise (fun n hn => lo n (pv.mem_iff.mp hn)) (by rw [pv.length_eq]; omega) (k5.free hp) (k5.new hp) ?_
          rw [upd_same, List.map_map]
          rfl
end
end LL
namespace LL
open PySem PySem.Spec PyProof.Rows L2
/-- the numbers at a place, as powers -/
def powAt (k : Nat) (us : List Nat) : List Nat := (us.filter fun n => n / 32 == k).map fun n => 2 ^ (n - 32 * k)
theorem powAt_sum (k : Nat) (us : List Nat) : (((powAt k us).map fun n : Nat => (n : Int)).sum) = ((sumP ((us.filter fun n => n / 32 == k).map fun n => n - 32 * k) : Nat) : Int) := by
  unfold powAt sumP
  rw [List.map_map (l := us.filter _)]
  generalize us.filter (fun n => n / 32 == k) = L
  induction L with
  | nil => rfl
  | cons n L ih =>
    rw [List.map_cons, List.map_cons, List.sum_cons, List.map_cons, List.sum_cons, Int.natCast_add, ← ih]
    rfl
theorem powAt_snoc (k : Nat) (us : List Nat) (n : Nat) : powAt k (us ++ [n]) = powAt k us ++ (if n / 32 = k then [2 ^ (n - 32 * k)] else []) := by
  unfold powAt
  rw [List.filter_append, List.map_append]
  congr 1
  by_cases c : n / 32 = k
  · simp [c]
  · simp [c]
theorem powAt_len (k : Nat) (us : List Nat) : (powAt k us).length ≤ us.length := by
  unfold powAt
  rw [List.length_map]
  exact List.length_filter_le _ _
section
variable {P : Program} {w : World} {K : PySem.W.Frag} {mg : Str → Option Value} {base : Heap} {c1 c2 t1 t2 : Addr}
def spLawRoot : Sp := fun vs H Q _ => ∃ (c : Nat) (a : Addr) (us : List Nat), vs = [.int (c : Int), .ref a] ∧ H a = some (.lst (numV us)) ∧ Rise us ∧ us.length ≤ 1000 ∧ c < cB ∧ ∀ p H', Exd H H' → H p = none → H' p = some (.tup (numV (rootW c (setM us)))) → Q (.ref p) H'
theorem ok__law_root (D : Defs K mg) (T : Tx K mg) : FnOk P w K mg base CX0 4 D._law_root.f D._law_root.fd ["_law_count_here", "_law_used_here"] spLawRoot := by
  have G_law_check := ok__law_check (P := P) (w := w) (base := base) D T
  refine D._law_root.F.ok scLroot (fun vs H Q E h => ?_) (fun cdv A outer s H vs Q E hr h => ?_)
  · obtain ⟨c, a, us, rfl, _⟩ := h
    rfl
  · obtain ⟨c, a, us, rfl, ha, ri, lu, lc, k⟩ := h
    refine ⟨_, (pss_cons (ps_set (i := 2) scLroot.nd rfl (Or.inl rfl) (pe_lst pa_nil))
        (pss_cons (ps_for PassesOwn.never rfl (pi_range1 rfl T.b_range (pa_cons pe_int pa_nil)) (pg_name (i := 3) scLroot.nd rfl (Or.inr rfl)) (pss_one (ps_expr (pe_bm PySem.F.plainAttrs_list PySem.F.slot_list_append PySem.F.type_list_append mt_append (pv 2) (pa_cons (pe_callB (cr_sum rfl) (by rfl) T.b_sum (by decide +kernel) (pa_cons (pe_lc (own := [("_law_number", 4)]) (g := gName 4) rfl scLroot.nd (pi_list (pv 1)) (blkOk_by (N := scLroot_N) (sc := defScope scLroot_st) (by decide +kernel)) (fun _ _ _ _ _ => (pg_name (i := 4) scLroot.nd rfl (Or.inl rfl))) (fun _ _ _ _ _ => pts_one (pt_cmpR op_eq (pe_op op_fdiv (pv 4) pe_int) (pv 3) (nomark _))) (fun _ _ _ _ _ => (pe_op op_shl pe_int (pe_op op_sub (pv 4) (pe_op op_mul pe_int (pv 3)))))) pa_nil)) pa_nil)))))
        (pss_cons (ps_set (i := 5) scLroot.nd rfl (Or.inl rfl) (pe_op op_cat (pe_lst (pa_cons (pv 0) (pa_cons pe_int pa_nil))) (pv 2)))
        (pss_one (ps_ret (pe_callTy call_tuple_of (by rfl) T.b_tuple (by decide +kernel) (pa_cons (pe_op op_cat (pv 5) (pe_lst (pa_cons (pcall D._law_check G_law_check hr (by decide) (by rfl) (pa_cons (pv 5) pa_nil)) (pa_cons (pv 0) pa_nil)))) pa_nil))))))), ?_⟩
    have hst : L2.start scLroot_N [V.int (c : Int), V.ref a] = [some (.int (c : Int)), some (.ref a), none, none, none, none] := rfl
    rw [hst]
    have sl : ∀ n : Nat, n ≤ 2000 → n < sizeLine := fun n hn => by
      have := PySem.sizeLine_eq
      omega
    refine ⟨(by show 0 ≤ sizeLine; decide), fun W hW => ?_⟩
    generalize hG : upd _ _ _ = H1
    obtain ⟨x1, w1⟩ := obj_of hW hG
    clear hG
    refine gset (by (simp only [List.set_cons_succ, List.set_cons_zero]); rfl) ?_
    refine ⟨_, rfl, by decide, by decide, for_range (lo := 0) (fun i σ H' => ∃ v3 v4, σ = [some (.int (c : Int)), some (.ref a), some (.ref W), v3, v4, none] ∧ Exd H H' ∧ H' W = some (.lst (numV ((List.range i).map fun j => setM us / 2 ^ (32 * j) % 2 ^ 32)))) ⟨_, _, rfl, x1, w1⟩ ?_ ?_⟩
    · rintro i σ H2 hi ⟨v3, v4, rfl, x2, w2⟩
      have hi : i < 16 := hi
      refine gset (by (simp only [List.set_cons_succ, List.set_cons_zero]); rfl) ?_
      have aW : a ≠ W := fun z => by rw [z, hW] at ha; cases ha
      have ha2 := x2 _ _ ha
      refine ⟨_, rfl, .inl ⟨rfl, _, SqL.of w2⟩, _, rfl, a, rfl, ⟨_, SqL.of ha2⟩, fun D1 hD1 => ?_⟩
      refine lc_list (K := K) (a := a) (xs := numV us) (fun j H' => Exd H2 H' ∧ H' D1 = some (.lst (numV (powAt i (us.take j))))) ⟨(Exd.refl H2).new hD1, by rw [upd_same]; rfl⟩ (fun j H' _ q => SqL.of (q.1 _ _ ha2)) ?_ ?_
      · rintro j x H3 hx ⟨x3, w3⟩
        obtain ⟨n, hn, rfl⟩ := numV_get hx
        refine ⟨rfl, ?_⟩
        refine ⟨_, rfl, _, _, rfl, rfl, ⟨by decide, by decide⟩, _, rfl, rfl, _, rfl, ?_⟩
        have hjl := (List.getElem?_eq_some_iff.mp hn).1
        have tk : us.take (j + 1) = us.take j ++ [n] := by
          rw [List.take_add_one, hn]
          rfl
        rw [tk, powAt_snoc]
        by_cases cc : n / 32 = i
        · have e : decide (V.int ((n : Int) / 32) = V.int (0 + (i : Int))) = true := decide_eq_true (congrArg V.int (by omega))
          rw [if_pos cc]
          show (fun b H3 => if b = true then _ else _) (decide (V.int ((n : Int) / 32) = V.int (0 + (i : Int)))) H3
          rw [e]
          refine iteT ⟨_, rfl, _, rfl, _, _, rfl, rfl, .inr ⟨by omega, by omega⟩, _, _, rfl, rfl, _, _, rfl, rfl, ⟨by omega, by omega, by decide⟩, _, w3, sl _ ?_, ?_, ?_⟩
          · rw [numV_len]
            have h1 := powAt_len i (us.take j)
            have h2 := List.length_take_le j us
            omega
          · exact fun b o hb => by rw [upd_ne (ne_of_none hb hD1)]; exact x3 _ _ hb
          · rw [upd_same, ← numV_app]
            have e2 : V.int (1 * 2 ^ ((n : Int) - 32 * (0 + (i : Int))).toNat) = V.int ((2 ^ (n - 32 * i) : Nat) : Int) := by
              have e3 : ((n : Int) - 32 * (0 + (i : Int))).toNat = n - 32 * i := by omega
              rw [e3, Int.one_mul, PySem.W.kbt_cast]
            show some (HO.lst (_ ++ [V.int (1 * 2 ^ ((n : Int) - 32 * (0 + (i : Int))).toNat)])) = _
            rw [e2]
            rfl
        · have e : decide (V.int ((n : Int) / 32) = V.int (0 + (i : Int))) = false := decide_eq_false (fun z => by injection z with z; omega)
          rw [if_neg cc, List.append_nil]
          show (fun b H3 => if b = true then _ else _) (decide (V.int ((n : Int) / 32) = V.int (0 + (i : Int)))) H3
          rw [e]
          exact iteF ⟨x3, w3⟩
      · rintro H3 ⟨x3, w3⟩
        rw [numV_len, List.take_length] at w3
        have w3' : H3 D1 = some (.lst (((powAt i us).map fun n : Nat => (n : Int)).map V.int)) := by
          rw [w3, List.map_map]
          rfl
        refine ⟨D1, _, rfl, SqL.of w3', ?_⟩
        rw [powAt_sum, word_at ri]
        refine ⟨W, _, _, rfl, rfl, x3 _ _ w2, sl _ (by rw [numV_len, List.length_map, List.length_range]; omega), _, _, rfl, ?_, ?_⟩
        · exact fun b o hb => by rw [upd_ne (fun z => by rw [z, hW] at hb; cases hb)]; exact x3 _ _ (x2 _ _ hb)
        · rw [upd_same, List.range_succ, List.map_append, ← numV_app]
          rfl
    · rintro σ H2 ⟨v3, v4, rfl, x2, w2⟩
      have w2 : H2 W = some (.lst (numV (wordsM (setM us)))) := w2
      have lw := wordsM_len (setM us)
      refine ⟨_, rfl, (by show 2 ≤ sizeLine; decide), fun l1 hl1 => ?_⟩
      generalize hG : upd _ _ _ = H3
      obtain ⟨x3, w3⟩ := obj_of hl1 hG
      clear hG
      refine ⟨_, rfl, _, _, _, _, rfl, rfl, w3, x3 _ _ w2, Nat.le_of_lt (sl _ (by show 2 + (numV (wordsM (setM us))).length ≤ 2000; rw [numV_len, lw]; decide)), fun l2 hl2 => ?_⟩
      generalize hG : upd _ _ _ = H4
      obtain ⟨x4, w4⟩ := obj_of hl2 hG
      clear hG
      have w4' : H4 l2 = some (.lst (numV ([c, 1] ++ wordsM (setM us)))) := by
        rw [← numV_app]
        exact w4
      have lt : ∀ n ∈ [c, 1] ++ wordsM (setM us), n < cB := fun n hn => by
        rcases List.mem_append.mp hn with hn | hn
        · simp only [List.mem_cons, List.not_mem_nil, or_false] at hn
          rcases hn with rfl | rfl
          · exact lc
          · rw [cB_eq]; decide
        · rw [cB_32]
          exact wordsM_lt (setM us) n hn
      refine ⟨_, rfl, _, rfl, l2, _, rfl, .inl w4', lt, ?_⟩
      refine ⟨_, rfl, (by show 2 ≤ sizeLine; decide), fun l4 hl4 => ?_⟩
      generalize hG : upd _ _ _ = H5
      obtain ⟨x5, w5⟩ := obj_of hl4 hG
      clear hG
      refine ⟨_, _, _, _, rfl, rfl, x5 _ _ w4', w5, Nat.le_of_lt (sl _ (by show (numV ([c, 1] ++ wordsM (setM us))).length + 2 ≤ 2000; rw [numV_len, List.length_append, lw]; show 2 + 16 + 2 ≤ 2000; decide)), fun l5 hl5 => ?_⟩
      generalize hG : upd _ _ _ = H6
      obtain ⟨x6, w6⟩ := obj_of hl5 hG
      clear hG
      refine ⟨l5, _, rfl, .inl ⟨SqL.of w6, fun l6 hl6 => ?_⟩⟩
      have xx := (((x2.trans x3).trans x4).trans x5).trans x6
      refine k _ _ (xx.new hl6) (xx.free hl6) ?_
      rw [upd_same]
      unfold rootW
      rw [← numV_app]
      rfl
end
end LL
namespace LL
open PySem PySem.Spec PyProof.Rows L2
theorem upd_self {H : Hp} {a : Addr} {o : HO} (h : H a = some o) : upd H a o = H := by
  funext b
  by_cases e : b = a
  · rw [e, upd_same, h]
  · rw [upd_ne e]
theorem Nw.nws {Ps : List Addr} {P : Addr} {H H' : Hp} (tabs : ∀ R ∈ Ps, GxR.TabG H R) (m : P ∈ Ps) (n : Nw P H H') : Nws Ps H H' := by
  refine ⟨tabs, fun R hR => ?_, fun b o nb e => n.old b o (fun z => nb (z ▸ m)) e⟩
  by_cases z : R = P
  · subst z
    exact n.tab
  · obtain ⟨ps, e, t⟩ := tabs R hR
    exact ⟨ps, n.old _ _ z e, t⟩
theorem Nws.xd {Ps : List Addr} {H H1 H' : Hp} (x : Nws Ps H H1) (y : Exd H1 H') : Nws Ps H H' :=
  ⟨x.was, fun P hP => by obtain ⟨ps, e, t⟩ := x.tab P hP; exact ⟨ps, y _ _ e, t⟩, fun b o n e => y _ _ (x.old b o n e)⟩
theorem list_set_same {α : Type} {xs : List α} {i : Nat} {x : α} (h : xs[i]? = some x) : xs.set i x = xs := by
  apply List.ext_getElem?
  intro j
  rw [List.getElem?_set]
  by_cases e : i = j
  · subst e
    have hl := (List.getElem?_eq_some_iff.mp h).1
    rw [if_pos rfl, if_pos hl, h]
  · rw [if_neg e]
theorem ixN_nat {k n : Nat} (h : k < n) : ixN n (k : Int) = some k := by
  unfold ixN
  rw [if_pos (by omega), if_pos (by omega)]
  simp
theorem cut_to (xs : List V) (k : Nat) : cutV xs none (some (k : Int)) = xs.take k := by
  unfold cutV
  have s1 : HT.sIx xs.length 0 none = 0 := rfl
  have s2 : HT.sIx xs.length xs.length (some (k : Int)) = min k xs.length := HT.sIx_nat _ _ _
  rw [s1, s2, List.drop_zero, Nat.sub_zero]
  rcases Nat.le_total k xs.length with h | h
  · rw [Nat.min_eq_left h]
  · rw [Nat.min_eq_right h, List.take_of_length_le (Nat.le_refl _), List.take_of_length_le h]
theorem cut_from (xs : List V) (k : Nat) (h : k ≤ xs.length) : cutV xs (some (k : Int)) none = xs.drop k := by
  unfold cutV
  have s1 : HT.sIx xs.length 0 (some (k : Int)) = min k xs.length := HT.sIx_nat _ _ _
  have s2 : HT.sIx xs.length xs.length none = xs.length := rfl
  rw [s1, s2, Nat.min_eq_left h, List.take_of_length_le (by rw [List.length_drop]; exact Nat.le_refl _)]
theorem cut_pages {K : PySem.W.Frag} {H : Hp} {Q : VK} {v0 v1 v3 v5 : V} {a b : Addr} {g : Nat} {xa xb : List V} (ha : H a = some (.tup xa)) (la : xa.length = 20) (hb : H b = some (.tup xb)) (lb : xb.length = 20) (hg : g ≤ 20)
    (k : ∀ c H', Exd H H' → H' c = some (.tup (xb.take g ++ xa.drop g)) → Q (.ref c) H') :
    tOp (rCatA K) (tSl (rSlA K) (tVar 2) tNoPart (tPart (tVar 6))) (tSl (rSlA K) (tVar 4) (tPart (tVar 6)) tNoPart) [some v0, some v1, some (.ref b), some v3, some (.ref a), some v5, some (.int (g : Int))] H Q := by
  have w1 : (HT.sIx xb.length 0 none = 0 ∧ HT.sIx xb.length xb.length (some (g : Int)) = xb.length) ↔ g = 20 := by
    rw [HT.sIx_nat, lb]
    show (0 = 0 ∧ min g 20 = 20) ↔ g = 20
    omega
  have w2 : (HT.sIx xa.length 0 (some (g : Int)) = 0 ∧ HT.sIx xa.length xa.length none = xa.length) ↔ g = 0 := by
    rw [HT.sIx_nat, la]
    show (min g 20 = 0 ∧ 20 = 20) ↔ g = 0
    omega
  have sz : ∀ n : Nat, n ≤ 100 → n ≤ sizeLine := fun n hn => by
    have := PySem.sizeLine_eq
    omega
  refine ⟨_, rfl, _, rfl, (g : Int), rfl, b, xb, rfl, SqT.of hb, fun z => ?_, fun z p4 hp4 => ?_⟩
  · have e := w1.mp z
    refine ⟨_, rfl, _, rfl, (g : Int), rfl, a, xa, rfl, SqT.of ha, fun z2 => absurd (w2.mp z2) (by omega), fun _ p4 hp4 => ?_⟩
    rw [cut_from _ _ (by omega)]
    have ce : xa.drop g = [] := List.drop_eq_nil_of_le (by omega)
    rw [ce]
    generalize hG : upd _ _ _ = H4
    obtain ⟨x4, w4⟩ := obj_of hp4 hG
    clear hG
    refine ⟨b, p4, xb, [], rfl, rfl, SqT.of (x4 _ _ hb), SqT.of w4, (by rw [lb]; exact sz 20 (by decide)), (fun z => by rw [z] at lb; cases lb), (fun _ _ => ?_), (fun _ z => absurd rfl z)⟩
    refine k b H4 x4 ?_
    rw [ce, List.append_nil, List.take_of_length_le (by omega)]
    exact x4 _ _ hb
  · have e : g ≠ 20 := fun y => z (w1.mpr y)
    rw [cut_to]
    generalize hG : upd _ _ _ = H4
    obtain ⟨x4, w4⟩ := obj_of hp4 hG
    clear hG
    refine ⟨_, rfl, _, rfl, (g : Int), rfl, a, xa, rfl, SqT.of (x4 _ _ ha), fun z2 => ?_, fun z2 p5 hp5 => ?_⟩
    · have e0 := w2.mp z2
      subst e0
      refine ⟨p4, a, [], xa, rfl, rfl, SqT.of w4, SqT.of (x4 _ _ ha), (by rw [la]; exact sz 20 (by decide)), (fun _ => ?_), (fun z => absurd rfl z), (fun z => absurd rfl z)⟩
      exact k a H4 x4 (x4 _ _ ha)
    · have e0 : g ≠ 0 := fun y => z2 (w2.mpr y)
      rw [cut_from _ _ (by omega)]
      generalize hG : upd _ _ _ = H5
      obtain ⟨x5, w5⟩ := obj_of hp5 hG
      clear hG
      have l1 : (xb.take g).length = g := by rw [List.length_take]; omega
      have l2 : (xa.drop g).length = 20 - g := by rw [List.length_drop]; omega
      refine ⟨p4, p5, _, _, rfl, rfl, SqT.of (x5 _ _ w4), SqT.of w5, sz _ (by omega), (fun z => ?_), (fun _ z => ?_), (fun _ _ p6 hp6 => ?_)⟩
      · rw [z] at l1
        exact absurd l1.symm e0
      · rw [z] at l2
        have l2 : 0 = 20 - g := l2
        omega
      · exact k p6 _ ((x4.trans x5).new hp6) upd_same
theorem give_le (l : Option Nat) : give l ≤ 20 := by
  cases l with
  | none => exact Nat.le_refl _
  | some n => exact Nat.min_le_left _ _
section
variable {P : Program} {w : World} {K : PySem.W.Frag} {mg : Str → Option Value} {base : Heap} {c1 c2 t1 t2 : Addr}
/-- at a: twenty items -/
def TwentyX (H : Hp) (a : Addr) (xs : List V) : Prop := H a = some (.tup xs) ∧ xs.length = 20
/-- what is there behind a writing by the power at pw: Hm ahead of the counting, then a page at c -/
def spWrite (K : PySem.W.Frag) (C CP CD : Addr) (Ts : List Addr) : Sp := fun vs H Q E => ∃ (p ls : Addr) (as : List Addr) (i : Nat) (a b : Addr) (xa xb : List V) (z : V), vs = [.ref p, .int (i : Int), .ref b, z] ∧ DiskAt C H p ls as ∧ (∀ R ∈ Ts, GxR.TabG H R) ∧
  as[i]? = some a ∧ TwentyX H a xa ∧ PageT K H (.ref b) true ∧ TwentyX H b xb ∧
     ((z = .non ∧ ∀ H1 c, Nws Ts H H1 → TwentyX H1 c xb → Q .non (upd H1 ls (.lst ((as.set i c).map V.ref)))) ∨
      (∃ (pw dw : Addr) (l : Option Nat) (s : Nat), z = .ref pw ∧ H pw = some (.ins CP dw (powF l s)) ∧
        ∀ (Hm H3 : Hp) (c : Addr), Nws Ts H Hm → Exd (upd Hm pw (.ins CP dw (powF (lessP l) (s + give l)))) H3 → TwentyX H3 c (xb.take (give l) ++ xa.drop (give l)) →
          (give l = 20 → Q .non (upd H3 ls (.lst ((as.set i c).map V.ref)))) ∧
          (give l ≠ 20 → ∀ d, upd H3 ls (.lst ((as.set i c).map V.ref)) d = none → E (.ref CD) (some d) (upd (upd H3 ls (.lst ((as.set i c).map V.ref))) d (.xd [("many", .int ((s + give l : Nat) : Int))])))))
theorem ok_Disk_write (D : Defs K mg) (T : Tx K mg) (hc1 : D.is_page.fd.code = .ref c1) (TB1 : GxR.TabB base mg c1 t1) : FnOk P w K mg base (CX P w) 10 D.Disk_write.f D.Disk_write.fd ["self", "number", "numbers", "power"] (spWrite K D.cDisk D.cPower D.erDark.C [t1, t2]) := by
  have GDisk_page_at := ok_Disk_page_at (P := P) (w := w) (base := base) (t1 := t1) (t2 := t2) D T
  have Gis_page := ok_is_page (P := P) (w := w) (base := base) D T hc1 TB1
  have GPower___init__ := ok_Power___init__ (P := P) (w := w) (base := base) (t1 := t1) (t2 := t2) D T
  have GPower_spend := ok_Power_spend (P := P) (w := w) (base := base) D T
  have GPower_written := ok_Power_written (P := P) (w := w) (base := base) D T
  have GNoPage___init__ := ok_NoPage___init__ (P := P) (w := w) (base := base) D T
  have GDark___init__ := ok_Dark___init__ (P := P) (w := w) (base := base) D T
  refine D.Disk_write.F.ok scDiskwrite (fun vs H Q E h => ?_) (fun cdv A outer s H vs Q E hr h => ?_)
  · obtain ⟨p, ls, as, i, a, b, xa, xb, z, rfl, _⟩ := h
    rfl
  · obtain ⟨p, ls, as, i, a, b, xa, xb, z, rfl, dk, tabs, hi, ⟨ha, la⟩, pt, ⟨hb, lb⟩, k⟩ := h
    refine ⟨_, (pss_cons (ps_set (i := 4) scDiskwrite.nd rfl (Or.inl rfl) (pmethX D.Disk_page_at.h D.Disk_page_at.b GDisk_page_at (takes_of rfl rfl rfl rfl) D.clDisk hr (by decide) (pv 0) (pa_cons (pv 1) pa_nil)))
        (pss_cons (ps_if (pt_not (pt_val (pcall D.is_page Gis_page hr (by decide) (by rfl) (pa_cons (pv 2) pa_nil)))) (pss_one (ps_raise rfl (takes_of rfl rfl rfl rfl) (pmkE D.erNoPage GNoPage___init__ rfl rfl rfl rfl rfl hr (by decide) (by rfl) (pa_cons (pv 2) pa_nil)))) pss_nil)
        (pss_cons (ps_set (i := 5) scDiskwrite.nd rfl (Or.inl rfl) (pe_ifExp (pt_cmpR op_isN (pv 3) pe_non (nomark _)) (pmake0G D.mkPower D.Power___init__.bd GPower___init__ hr (by decide) (by rfl) D.g_Power) (pv 3)))
        (pss_cons (ps_set (i := 6) scDiskwrite.nd rfl (Or.inl rfl) (pmeth D.Power_spend GPower_spend D.clPower hr (by decide) (pv 5) (pa_cons (pe_glob (v := .int 20) (by rfl) T.g_PAGE_SIZE ⟨_, rfl⟩) pa_nil)))
        (pss_cons (ps_asg (pe_op op_catA (pe_slice sl_tupA (pv 2) po_none (po_some (pv 6))) (pe_slice sl_tupA (pv 4) (po_some (pv 6)) po_none)) (pg_sub (pe_fld (pv 0) rfl) (pv 1) set_list))
        (pss_one (ps_if (pt_cmpR op_lt (pv 6) (pe_glob (v := .int 20) (by rfl) T.g_PAGE_SIZE ⟨_, rfl⟩) (nomark _)) (pss_one (ps_raise rfl (takes_of rfl rfl rfl rfl) (pmkE D.erDark GDark___init__ rfl rfl rfl rfl rfl hr (by decide) (by rfl) (pa_cons (pmeth0 D.Power_written GPower_written D.clPower hr (by decide) (pv 5)) pa_nil)))) pss_nil))))))), ?_⟩
    have hst : L2.start scDiskwrite_N [.ref p, .int (i : Int), .ref b, z] = [some (.ref p), some (.int (i : Int)), some (.ref b), some z, none, none, none] := rfl
    rw [hst]
    have m1 : t1 ∈ [t1, t2] := by simp
    obtain ⟨dx, d1, d2⟩ := id dk
    refine ⟨_, rfl, p, dx, _, rfl, d1, rfl, _, rfl, p, ls, as, _, rfl, dk, tabs, .inl ⟨i, a, rfl, hi, ?_⟩⟩
    refine gset (by (simp only [List.set_cons_succ, List.set_cons_zero]); rfl) ?_
    refine ⟨_, rfl, _, _, rfl, pt, tabs t1 m1, fun H1 n1 => ?_⟩
    have n1 := n1.nws tabs m1
    refine ⟨_, rfl, iteF ?_⟩
    have il := (List.getElem?_eq_some_iff.mp hi).1
    have jx : ixN (as.map V.ref).length (i : Int) = some i := by rw [List.length_map]; exact ixN_nat il
    have ms : ∀ c : Addr, (as.map V.ref).set i (.ref c) = (as.set i c).map V.ref := fun c => by rw [List.map_set]
    rcases k with ⟨rfl, k⟩ | ⟨pw, dw, l, n, rfl, hw, k⟩
    · refine ⟨_, rfl, rfl, _, rfl, ?_⟩
      rw [decide_eq_true rfl]
      refine iteT fun q dq hq hdq ne => ?_
      have tabm : ∀ R ∈ [t1, t2], GxR.TabG (upd (upd H1 dq (.own q)) q (.ins D.cPower dq [])) R := tabs_new (tabs_new n1.tab hdq) (by rw [upd_ne ne.symm]; exact hq)
      refine ⟨q, dq, .non, rfl, upd_same, tabm, .inl ⟨none, rfl, rfl, ?_⟩⟩
      rw [upd_upd]
      have n2 : Nws [t1, t2] H (upd (upd H1 dq (.own q)) q (.ins D.cPower dq (powF none 0))) := (n1.new hdq).new (by rw [upd_ne ne.symm]; exact hq)
      have w2 : (upd (upd H1 dq (.own q)) q (.ins D.cPower dq (powF none 0))) q = some (.ins D.cPower dq (powF none 0)) := upd_same
      generalize upd (upd H1 dq (.own q)) q (.ins D.cPower dq (powF none 0)) = H2 at n2 w2 ⊢
      refine gset (by (simp only [List.set_cons_succ, List.set_cons_zero]); rfl) ?_
      refine ⟨_, rfl, q, dq, _, rfl, w2, rfl, q, dq, none, 0, rfl, w2, ?_⟩
      have n3 := n2.put (u := .ins D.cPower dq (powF (lessP none) (0 + give none))) (n1.free hq) w2 (fun q z => by cases z)
      generalize upd H2 q (.ins D.cPower dq (powF (lessP none) (0 + give none))) = H3 at n3 ⊢
      refine gset (by (simp only [List.set_cons_succ, List.set_cons_zero]); rfl) ?_
      dsimp only [tSeq, tAsg]
      refine cut_pages (n3.tup ha) la (n3.tup hb) lb (g := 20) (Nat.le_refl _) fun c H4 x4 w4 => ?_
      have n4 := n3.xd x4
      have d1' := n4.get d1 (fun q z => by cases z)
      have d2' := n4.lst d2
      refine ⟨_, rfl, p, _, dx, _, _, rfl, d1', D.clDisk, D.n_pages, rfl, _, rfl, ls, _, _, i, rfl, rfl, d2', jx, ?_⟩
      refine ⟨_, rfl, _, _, rfl, rfl, _, rfl, ?_⟩
      refine iteF ?_
      rw [ms]
      refine k H4 c n4 ⟨?_, lb⟩
      rw [w4, List.take_of_length_le (by omega), List.drop_eq_nil_of_le (by omega), List.append_nil]
    · refine ⟨_, rfl, rfl, _, rfl, ?_⟩
      rw [decide_eq_false (fun z => by cases z)]
      refine iteF ⟨_, rfl, ?_⟩
      have hw1 := n1.get hw (fun q z => by cases z)
      refine gset (by (simp only [List.set_cons_succ, List.set_cons_zero]); rfl) ?_
      refine ⟨_, rfl, pw, dw, _, rfl, hw1, rfl, pw, dw, l, n, rfl, hw1, ?_⟩
      have npa : ∀ {q : Addr} {xs : List V}, H1 q = some (.tup xs) → upd H1 pw (.ins D.cPower dw (powF (lessP l) (n + give l))) q = some (.tup xs) := fun {q xs} e => by
        rw [upd_ne (fun z => by rw [z, hw1] at e; cases e)]
        exact e
      have hwp : pw ≠ p := fun z => by
        have := n1.get d1 (fun q z => by cases z)
        rw [← z, hw1] at this
        injection this with this
        injection this with _ _ this
        cases this
      have hwl : pw ≠ ls := fun z => by
        have := n1.lst d2
        rw [← z, hw1] at this
        cases this
      have ha2 := npa (n1.tup ha)
      have hb2 := npa (n1.tup hb)
      have d12 : upd H1 pw (.ins D.cPower dw (powF (lessP l) (n + give l))) p = some (.ins D.cDisk dx [("_pages", .ref ls)]) := by rw [upd_ne hwp.symm]; exact n1.get d1 (fun q z => by cases z)
      have d22 : upd H1 pw (.ins D.cPower dw (powF (lessP l) (n + give l))) ls = some (.lst (as.map V.ref)) := by rw [upd_ne hwl.symm]; exact n1.lst d2
      have w22 : upd H1 pw (.ins D.cPower dw (powF (lessP l) (n + give l))) pw = some (.ins D.cPower dw (powF (lessP l) (n + give l))) := upd_same
      have kk := fun H3 c (x : Exd _ H3) y => k H1 H3 c n1 x y
      generalize upd H1 pw (.ins D.cPower dw (powF (lessP l) (n + give l))) = H2 at ha2 hb2 d12 d22 w22 kk ⊢
      refine gset (by (simp only [List.set_cons_succ, List.set_cons_zero]); rfl) ?_
      dsimp only [tSeq, tAsg]
      refine cut_pages ha2 la hb2 lb (give_le l) fun c H4 x4 w4 => ?_
      have l4 : (xb.take (give l) ++ xa.drop (give l)).length = 20 := by
        have := give_le l
        rw [List.length_append, List.length_take, List.length_drop]
        omega
      obtain ⟨k1, k2⟩ := kk H4 c x4 ⟨w4, l4⟩
      have d1' := x4 _ _ d12
      have d2' := x4 _ _ d22
      refine ⟨_, rfl, p, _, dx, _, _, rfl, d1', D.clDisk, D.n_pages, rfl, _, rfl, ls, _, _, i, rfl, rfl, d2', jx, ?_⟩
      rw [ms]
      have w5 : upd H4 ls (.lst ((as.set i c).map V.ref)) pw = some (.ins D.cPower dw (powF (lessP l) (n + give l))) := by rw [upd_ne hwl]; exact x4 _ _ w22
      generalize upd H4 ls (.lst ((as.set i c).map V.ref)) = H5 at k1 k2 w5 ⊢
      refine ⟨_, rfl, _, _, rfl, rfl, _, rfl, ?_⟩
      have gl := give_le l
      by_cases e : give l = 20
      · rw [decide_eq_false (by rw [e]; decide)]
        exact iteF (k1 e)
      · rw [decide_eq_true (by omega)]
        refine iteT ⟨_, rfl, pw, dw, _, rfl, w5, rfl, pw, lessP l, n + give l, rfl, ⟨dw, w5⟩, mkE D.erDark fun d hd => k2 e d hd⟩
end
end LL
namespace LL
open PySem PySem.Spec PyProof.Rows L2
/-! ### shown data is text that can be laid -/
theorem so_app {a b : Str} (h1 : PyData.strOk a = true) (h2 : PyData.strOk b = true) : PyData.strOk (a ++ b) = true := by
  have e : PyData.strOk (a ++ b) = (a.cps ++ b.cps).all (· < 0x110000) := rfl
  rw [e, Array.all_append]
  have h1 : a.cps.all (· < 0x110000) = true := h1
  have h2 : b.cps.all (· < 0x110000) = true := h2
  rw [h1, h2]
  rfl
theorem so_string (s : String) : PyData.strOk (Str.ofString s) = true := by
  show (Str.ofString s).cps.all (· < 0x110000) = true
  rw [Str.ofString_eq_toList]
  simp only [List.all_toArray, List.all_map, List.all_eq_true, Function.comp_apply, decide_eq_true_eq]
  intro c hc
  have h := c.valid
  simp only [UInt32.isValidChar, Nat.isValidChar] at h
  show c.val.toNat < 0x110000
  omega
theorem so_textFrom : ∀ (ts : List Str) (k : Nat) (acc : Str), PyData.strOk acc = true → (∀ t ∈ ts, PyData.strOk t = true) → PyData.strOk (textFrom k acc ts) = true
  | [], _, _, h, _ => h
  | t :: ts, k, acc, h, ht => by
    unfold textFrom
    exact so_textFrom ts _ _ (so_app (so_app h (so_string _)) (ht t List.mem_cons_self)) fun x hx => ht x (List.mem_cons_of_mem _ hx)
theorem so_join {sep : Str} (hs : PyData.strOk sep = true) : ∀ ts : List Str, (∀ t ∈ ts, PyData.strOk t = true) → PyData.strOk (Str.join sep ts) = true
  | [], _ => (by decide +kernel : PyData.strOk Str.empty = true)
  | [x], h => h x List.mem_cons_self
  | x :: y :: r, h => by
    show PyData.strOk (x ++ sep ++ Str.join sep (y :: r)) = true
    exact so_app (so_app (h x List.mem_cons_self) hs) (so_join hs (y :: r) fun t ht => h t (List.mem_cons_of_mem _ ht))
/-- data whose texts are told as texts that can be laid; no dict but {} -/
inductive TxOk : PyData → Prop
  | non : TxOk .none
  | bl (b : Bool) : TxOk (.bool b)
  | int (i : Int) : TxOk (.int i)
  | str {z : Str} (h : PyData.strOk (reprText z) = true) : TxOk (.str z)
  | lst {ds : List PyData} (h : ∀ d ∈ ds, TxOk d) : TxOk (.list ds)
  | tup {ds : List PyData} (h : ∀ d ∈ ds, TxOk d) : TxOk (.tuple ds)
  | dct : TxOk (.dict [])
theorem mem_shownAll : ∀ {ds : List PyData} {t : Str}, t ∈ PyData.shownAll ds → ∃ d ∈ ds, t = PyData.shown d
  | [], t, h => by
    unfold PyData.shownAll at h
    exact nomatch h
  | d :: ds, t, h => by
    unfold PyData.shownAll at h
    rcases List.mem_cons.mp h with rfl | h
    · exact ⟨d, List.mem_cons_self, rfl⟩
    · obtain ⟨d', m, e⟩ := mem_shownAll h
      exact ⟨d', List.mem_cons_of_mem _ m, e⟩
theorem TxOk.ok {d : PyData} (h : TxOk d) : PyData.strOk d.shown = true := by
  induction h with
  | non => unfold PyData.shown; exact so_string _
  | bl b => unfold PyData.shown; cases b <;> exact so_string _
  | int i => unfold PyData.shown; exact so_string _
  | str h => unfold PyData.shown; exact h
  | lst _ ih =>
    unfold PyData.shown listText
    refine so_app (so_textFrom _ _ _ (so_string _) fun t ht => ?_) (so_string _)
    obtain ⟨d, m, rfl⟩ := mem_shownAll ht
    exact ih d m
  | tup _ ih =>
    unfold PyData.shown tupleText
    refine so_app (so_app (so_string _) (so_join (so_string _) _ fun t ht => ?_)) (so_string _)
    obtain ⟨d, m, rfl⟩ := mem_shownAll ht
    exact ih d m
  | dct => decide +kernel
theorem so_list {ds : List PyData} (h : ∀ d ∈ ds, PyData.strOk d.shown = true) : PyData.strOk (PyData.shown (.list ds)) = true := by
  unfold PyData.shown listText
  refine so_app (so_textFrom _ _ _ (so_string _) fun t ht => ?_) (so_string _)
  obtain ⟨d, m, rfl⟩ := mem_shownAll ht
  exact h d m
theorem so_tup {ds : List PyData} (h : ∀ d ∈ ds, PyData.strOk d.shown = true) : PyData.strOk (PyData.shown (.tuple ds)) = true := by
  unfold PyData.shown tupleText
  refine so_app (so_app (so_string _) (so_join (so_string _) _ fun t ht => ?_)) (so_string _)
  obtain ⟨d, m, rfl⟩ := mem_shownAll ht
  exact h d m
/-- data of a depth and a weight that can be told -/
structure Td (d : PyData) (k W : Nat) : Prop where
  sz : Sz d k W
  ok : PyData.strOk d.shown = true
theorem Td.mono {d : PyData} {k l W U : Nat} (h : Td d k W) (a : k ≤ l) (b : W ≤ U) : Td d l U := ⟨h.sz.mono a b, h.ok⟩
theorem td_int {i : Int} (h : i.natAbs < 10 ^ 12) : Td (.int i) 0 40 := by
  refine ⟨⟨?_, ?_, ?_, ?_⟩, (TxOk.int i).ok⟩
  · simp only [PyData.showable]
    have : i.natAbs.log2 < 1920 := by
      by_cases z : i.natAbs = 0
      · rw [z]; decide +kernel
      · exact (Nat.log2_lt z).mpr (Nat.lt_of_lt_of_le h (by decide +kernel))
    exact decide_eq_true this
  · simp only [PyData.leavesShort]
    exact decide_eq_true (Nat.le_trans (PyData.shown_int_le h) (by decide))
  · simp only [PyData.depth]
    exact Nat.le_refl _
  · simp only [PyData.weight]
    split
    · exact Nat.zero_le _
    · have : i.natAbs.log2 < 40 := by
        by_cases z : i.natAbs = 0
        · rw [z]; decide +kernel
        · exact (Nat.log2_lt z).mpr (Nat.lt_of_lt_of_le h (by decide +kernel))
      omega
theorem td_list {ds : List PyData} {k W : Nat} (h : ∀ d ∈ ds, Td d k W) : Td (.list ds) (k + 1) ((W + 1) * ds.length) := ⟨(szAll_of fun d m => (h d m).sz).list, so_list fun d m => (h d m).ok⟩
theorem td_tup {ds : List PyData} {k W : Nat} (h : ∀ d ∈ ds, Td d k W) : Td (.tuple ds) (k + 1) ((W + 1) * ds.length) := ⟨(szAll_of fun d m => (h d m).sz).tuple, so_tup fun d m => (h d m).ok⟩
theorem td_zero : Td (.int 0) 0 0 := ⟨⟨by decide +kernel, by decide +kernel, by decide +kernel, by decide +kernel⟩, (TxOk.int 0).ok⟩
theorem td_non : Td .none 0 0 := ⟨⟨by decide +kernel, by decide +kernel, by decide +kernel, by decide +kernel⟩, TxOk.non.ok⟩
theorem tx_lits {ds : List PyData} (h : ∀ d ∈ ds, TxOk d) {d : PyData} (m : d ∈ ds) : TxOk d := h d m
end LL
namespace LL
open PySem PySem.Spec PyProof.Rows L2
/-- data that may be told -/
structure BadD (d : PyData) : Prop where
  sz : Sz d 60 200000
  io : intOk d = true
  ok : PyData.strOk d.shown = true
/-! ### what is kept through a case: all but the box and the tables -/
structure Go (Ts : List Addr) (b : Addr) (H H' : Hp) : Prop where
  old : ∀ a o, a ∉ Ts → a ≠ b → H a = some o → H' a = some o
  bx0 : Bx H b
  bx : Bx H' b
  tab0 : ∀ R ∈ Ts, GxR.TabG H R
  tab : ∀ R ∈ Ts, GxR.TabG H' R
theorem Nws.bx {Ps : List Addr} {a : Addr} {H H' : Hp} (n : Nws Ps H H') (bx : Bx H a) : Bx H' a := by
  obtain ⟨o, e, x, y, z, rfl, b⟩ := bx
  exact ⟨_, n.lst e, x, y, z, rfl, b⟩
section
variable {Ts : List Addr} {b : Addr} {H H1 H2 : Hp}
theorem Go.refl (bx : Bx H b) (t : ∀ R ∈ Ts, GxR.TabG H R) : Go Ts b H H := ⟨fun _ _ _ _ e => e, bx, bx, t, t⟩
theorem Go.trans (g : Go Ts b H H1) (h : Go Ts b H1 H2) : Go Ts b H H2 := ⟨fun a o n m e => h.old a o n m (g.old a o n m e), g.bx0, h.bx, g.tab0, h.tab⟩
theorem Go.kept (g : Go Ts b H H1) (k : Kept b H1 H2) : Go Ts b H H2 := ⟨fun a o n m e => k.old a o m (g.old a o n m e), g.bx0, k.bx, g.tab0, fun R hR => k.tab g.bx (g.tab R hR)⟩
theorem Go.nws (g : Go Ts b H H1) (n : Nws Ts H1 H2) : Go Ts b H H2 := ⟨fun a o h m e => n.old a o h (g.old a o h m e), g.bx0, n.bx g.bx, g.tab0, n.tab⟩
theorem Go.exd (g : Go Ts b H H1) (x : Exd H1 H2) : Go Ts b H H2 := g.nws ((Nws.refl g.tab).xd x)
theorem Go.put {p : Addr} {u o : HO} (g : Go Ts b H H1) (hp : H p = none) (ho : H1 p = some o) (n : ∀ q, o ≠ .tbl q) : Go Ts b H (upd H1 p u) := by
  have nb : p ≠ b := g.bx0.ne hp
  refine ⟨fun a o2 h m e => by rw [upd_ne (ne_of_none e hp)]; exact g.old a o2 h m e, g.bx0, ?_, g.tab0, fun R hR => tab_upd (g.tab R hR) (fun z => tab_ne (g.tab R hR) ho n z.symm)⟩
  obtain ⟨ob, e, bo⟩ := g.bx
  exact ⟨ob, by rw [upd_ne (fun z => nb z.symm)]; exact e, bo⟩
theorem Go.get {a : Addr} {o : HO} (g : Go Ts b H H1) (e : H a = some o) (nb : noBox o = true) (nt : ∀ q, o ≠ .tbl q) : H1 a = some o := by
  refine g.old a o (tabs_ne g.tab0 e nt) (fun z => ?_) e
  obtain ⟨ob, eb, x0, y0, z0, rfl, _⟩ := g.bx0
  rw [z, eb] at e
  cases e
  cases nb
theorem Go.tup {a : Addr} {xs : List V} (g : Go Ts b H H1) (e : H a = some (.tup xs)) : H1 a = some (.tup xs) := g.get e rfl (fun q z => by cases z)
theorem Go.ins {a C dx : Addr} {fs : List (Str × V)} (g : Go Ts b H H1) (e : H a = some (.ins C dx fs)) : H1 a = some (.ins C dx fs) := g.get e rfl (fun q z => by cases z)
theorem nb_refs (as : List Addr) : noBox (.lst (as.map V.ref)) = true := by
  cases as with
  | nil => rfl
  | cons a as => rfl
theorem nb_len {xs : List V} (h : xs.length ≠ 3) : noBox (.lst xs) = true := by
  unfold noBox
  split
  · rename_i e
    cases e
    exact absurd rfl h
  · rfl
theorem Go.refs {a : Addr} {as : List Addr} (g : Go Ts b H H1) (e : H a = some (.lst (as.map V.ref))) : H1 a = some (.lst (as.map V.ref)) := g.get e (nb_refs as) (fun q z => by cases z)
end
/-! ### pages as data -/
def PgF (H : Hp) (ns : List Nat) (a : Addr) : Prop := H a = some (.tup (numV ns)) ∧ ns.length = 20 ∧ ∀ n ∈ ns, n < cB
def PgOk (H : Hp) (a : Addr) : Prop := ∃ ns, PgF H ns a
theorem PgF.page {K : PySem.W.Frag} {H : Hp} {ns : List Nat} {a : Addr} (h : PgF H ns a) : PageT K H (.ref a) true := by
  obtain ⟨e, l, lt⟩ := h
  have al : ((numV ns).all fun u => within u 0 4294967295) = true := by
    rw [List.all_eq_true]
    intro u hu
    obtain ⟨n, m, rfl⟩ := List.mem_map.mp hu
    exact within_nat (lt n m)
  rw [← al]
  refine .items e (by rw [numV_len]; exact l) fun u hu => ?_
  obtain ⟨n, m, rfl⟩ := List.mem_map.mp hu
  exact .int _
theorem PgF.twenty {H : Hp} {ns : List Nat} {a : Addr} (h : PgF H ns a) : TwentyX H a (numV ns) := ⟨h.1, by rw [numV_len]; exact h.2.1⟩
theorem PgF.go {Ts : List Addr} {b a : Addr} {H H1 : Hp} {ns : List Nat} (g : Go Ts b H H1) (h : PgF H ns a) : PgF H1 ns a := ⟨g.tup h.1, h.2⟩
theorem PgOk.go {Ts : List Addr} {b a : Addr} {H H1 : Hp} (g : Go Ts b H H1) (h : PgOk H a) : PgOk H1 a := by
  obtain ⟨ns, h⟩ := h
  exact ⟨ns, h.go g⟩
def tupDat (ns : List Nat) : PyData := .tuple (ns.map fun n : Nat => .int (n : Int))
theorem tupDat_eqv (ns : List Nat) : PyData.eqv (tupDat ns) (tupDat ns) = true := by
  have e := natDat_eqv ns ns
  rw [decide_eq_true rfl] at e
  rw [← e]
  unfold tupDat natDat
  simp only [PyData.eqv]
theorem nats_dz {H : Hp} : ∀ ns : List Nat, DzAll H (numV ns) (ns.map fun n : Nat => PyData.int (n : Int))
  | [] => .nil
  | n :: ns => .cons (.int _) (nats_dz ns)
theorem PgF.dz {H : Hp} {ns : List Nat} {a : Addr} (h : PgF H ns a) : Dz H (.ref a) (tupDat ns) := .tup h.1 (nats_dz ns)
theorem PgF.td {H : Hp} {ns : List Nat} {a : Addr} (h : PgF H ns a) : Td (tupDat ns) 1 820 := by
  refine (td_tup (k := 0) (W := 40) fun d hd => ?_).mono (Nat.le_refl _) (by rw [List.length_map, h.2.1]; decide)
  obtain ⟨n, m, rfl⟩ := List.mem_map.mp hd
  have := h.2.2 n m
  rw [cB_eq] at this
  exact td_int (by have : ((n : Int)).natAbs = n := rfl; omega)
/-- two lists, place by place -/
def Ali (R : Addr → List Nat → Prop) (as : List Addr) (sh : List (List Nat)) : Prop := as.length = sh.length ∧ ∀ (j : Nat) (u : Addr), as[j]? = some u → ∃ ns, sh[j]? = some ns ∧ R u ns
theorem Ali.imp {R S : Addr → List Nat → Prop} {as : List Addr} {sh : List (List Nat)} (f : ∀ u ns, R u ns → S u ns) (h : Ali R as sh) : Ali S as sh := ⟨h.1, fun j u e => by
  obtain ⟨ns, e2, r⟩ := h.2 j u e
  exact ⟨ns, e2, f u ns r⟩⟩
theorem Ali.set {R : Addr → List Nat → Prop} {as : List Addr} {sh : List (List Nat)} {i : Nat} {u : Addr} {ns : List Nat} (h : Ali R as sh) (r : R u ns) : Ali R (as.set i u) (sh.set i ns) := by
  refine ⟨by rw [List.length_set, List.length_set]; exact h.1, fun j v e => ?_⟩
  rw [List.getElem?_set] at e ⊢
  by_cases c : i = j
  · rw [if_pos c] at e ⊢
    by_cases l : i < as.length
    · rw [if_pos l] at e
      cases e
      rw [if_pos (by rw [← h.1]; exact l)]
      exact ⟨ns, rfl, r⟩
    · rw [if_neg l] at e
      cases e
  · rw [if_neg c] at e ⊢
    exact h.2 j v e
theorem Ali.rep {R : Addr → List Nat → Prop} {u : Addr} {ns : List Nat} (r : R u ns) (n : Nat) : Ali R (List.replicate n u) (List.replicate n ns) := by
  refine ⟨by rw [List.length_replicate, List.length_replicate], fun j v e => ?_⟩
  rw [List.getElem?_replicate] at e ⊢
  by_cases l : j < n
  · rw [if_pos l] at e ⊢
    cases e
    exact ⟨ns, rfl, r⟩
  · rw [if_neg l] at e
    cases e
theorem Ali.nil {R : Addr → List Nat → Prop} {sh : List (List Nat)} (h : Ali R [] sh) : sh = [] := List.eq_nil_of_length_eq_zero h.1.symm
theorem Ali.cons {R : Addr → List Nat → Prop} {a : Addr} {as : List Addr} {sh : List (List Nat)} (h : Ali R (a :: as) sh) : ∃ ns sh', sh = ns :: sh' ∧ R a ns ∧ Ali R as sh' := by
  cases sh with
  | nil => exact absurd h.1 (by simp)
  | cons ns sh' =>
    obtain ⟨ms, e, r⟩ := h.2 0 a rfl
    cases e
    refine ⟨_, sh', rfl, r, by have := h.1; simp only [List.length_cons] at this; omega, fun j u e => h.2 (j + 1) u e⟩
theorem Ali.at {R : Addr → List Nat → Prop} {as : List Addr} {sh : List (List Nat)} (h : Ali R as sh) {j : Nat} (l : j < sh.length) : ∃ u, as[j]? = some u ∧ R u sh[j] := by
  have l2 : j < as.length := by rw [h.1]; exact l
  obtain ⟨ns, e, r⟩ := h.2 j as[j] (List.getElem?_eq_getElem l2)
  rw [List.getElem?_eq_getElem l] at e
  cases e
  exact ⟨_, List.getElem?_eq_getElem l2, r⟩
/-! ### told pages as data -/
abbrev shD (sh : List (List Nat)) : PyData := .list (sh.map tupDat)
theorem sh_dz {H : Hp} : ∀ {as : List Addr} {sh : List (List Nat)}, Ali (fun u ns => PgF H ns u) as sh → DzAll H (as.map V.ref) (sh.map tupDat)
  | [], sh, h => by
    rw [h.nil]
    exact .nil
  | a :: as, sh, h => by
    obtain ⟨ns, sh', rfl, r, t⟩ := h.cons
    exact .cons r.dz (sh_dz t)
theorem sh_td {R : Addr → List Nat → Prop} {as : List Addr} {sh : List (List Nat)} (h : Ali R as sh) (f : ∀ u ns, R u ns → Td (tupDat ns) 1 820) : ∀ d ∈ sh.map tupDat, Td d 1 820 := fun d hd => by
  obtain ⟨ns, m, rfl⟩ := List.mem_map.mp hd
  obtain ⟨j, l, e⟩ := List.mem_iff_getElem.mp m
  obtain ⟨u, _, r⟩ := h.at l
  rw [e] at r
  exact f u ns r
theorem weight_set : ∀ (ds : List PyData) (i : Nat) (d : PyData), PyData.weightAll (ds.set i d) ≤ PyData.weightAll ds + (PyData.weight d + 1)
  | [], i, d => by
    rw [List.set_nil]
    exact Nat.le_add_right _ _
  | e :: ds, 0, d => by
    show PyData.weightAll (d :: ds) ≤ PyData.weightAll (e :: ds) + _
    simp only [PyData.weightAll]
    omega
  | e :: ds, i + 1, d => by
    have := weight_set ds i d
    show PyData.weightAll (e :: ds.set i d) ≤ PyData.weightAll (e :: ds) + _
    simp only [PyData.weightAll]
    omega
theorem weight_rep (d : PyData) : ∀ n : Nat, PyData.weightAll (List.replicate n d) = (PyData.weight d + 1) * n
  | 0 => rfl
  | n + 1 => by
    rw [List.replicate_succ]
    simp only [PyData.weightAll]
    rw [weight_rep d n, Nat.mul_succ]
    omega
theorem blank_weight : PyData.weight (tupDat blankN) = 20 := by decide +kernel
/-- told pages of a weight -/
def Wt (sh : List (List Nat)) (k : Nat) : Prop := PyData.weightAll (sh.map tupDat) ≤ 11000 + 821 * k
theorem Wt.start {n : Nat} (h : n ≤ 512) : Wt (List.replicate n blankN) 0 := by
  unfold Wt
  rw [List.map_replicate, weight_rep, blank_weight]
  omega
theorem Wt.set {sh : List (List Nat)} {k i : Nat} {ns : List Nat} (h : Wt sh k) (w : (tupDat ns).weight ≤ 820) : Wt (sh.set i ns) (k + 1) := by
  unfold Wt at h ⊢
  rw [List.map_set]
  have := weight_set (sh.map tupDat) i (tupDat ns)
  omega
theorem Wt.mono {sh : List (List Nat)} {k l : Nat} (h : Wt sh k) (a : k ≤ l) : Wt sh l := by
  unfold Wt at h ⊢
  omega
theorem sh_bad {sh : List (List Nat)} (h : ∀ d ∈ sh.map tupDat, Td d 1 820) (w : Wt sh 20) : BadD (shD sh) := by
  have a := szAll_of fun d m => (h d m).sz
  refine ⟨⟨a.list.sh, a.list.lv, Nat.le_trans a.list.dep (by decide), ?_⟩, rfl, so_list fun d m => (h d m).ok⟩
  show PyData.weight (.list (sh.map tupDat)) ≤ 200000
  simp only [PyData.weight]
  have w : PyData.weightAll (sh.map tupDat) ≤ 11000 + 821 * 20 := w
  omega
theorem Td.bad {d : PyData} {k W : Nat} (h : Td d k W) (i : intOk d = true) (a : k ≤ 60) (b : W ≤ 200000) : BadD d := ⟨h.sz.mono a b, i, h.ok⟩
theorem bad_int {i : Int} (h : i.natAbs < 10 ^ 12) : BadD (.int i) := by
  refine (td_int h).bad ?_ (by decide) (by decide)
  have : i.natAbs.log2 < 1920 := by
    by_cases z : i.natAbs = 0
    · rw [z]; decide +kernel
    · exact (Nat.log2_lt z).mpr (Nat.lt_of_lt_of_le h (by decide +kernel))
  exact decide_eq_true this
theorem DiskAt.go {Ts : List Addr} {C b p ls : Addr} {as : List Addr} {H H' : Hp} (g : Go Ts b H H') (h : DiskAt C H p ls as) : DiskAt C H' p ls as := by
  obtain ⟨dx, h1, h2⟩ := h
  exact ⟨dx, g.ins h1, g.refs h2⟩
end LL
namespace LL
open PySem PySem.Spec PyProof.Rows L2
def genA : Stmt → Scope
  | .Return (some (.Call _ [.GeneratorExp _ _ sc _] _ _)) _ => sc
  | _ => { kind := .function, names := [], isGenerator := false, isCoroutine := false }
abbrev gscA : Scope := genA ((defBody scarepages_st).getD 1 (.Pass ⟨0, 0, 0, 0⟩))
theorem gscA_names : gscA.names = [((".0" : Str), NameKind.local), (("page" : Str), NameKind.local), (("is_page" : Str), NameKind.globalImplicit)] := by decide +kernel
theorem genA_ok {env : Env} : GxR.GenS env gscA "page" := by
  refine ⟨by decide +kernel, by decide +kernel, ?_, by decide +kernel, by decide +kernel, ?_⟩
  · rw [gscA_names]
    decide +kernel
  · rw [gscA_names]
    intro y hy e
    simp only [List.mem_cons, List.not_mem_nil, or_false] at hy
    rcases hy with rfl | rfl | rfl <;> cases e
section
variable {P : Program} {w : World} {K : PySem.W.Frag} {mg : Str → Option Value} {base : Heap} {c1 c2 t1 t2 : Addr}
theorem PageT.nws {Ps : List Addr} {H H' : Hp} {x : V} {b : Bool} (n : Nws Ps H H') (h : PageT K H x b) : PageT K H' x b := by
  cases h with
  | other h => exact .other (h.keep n.keep)
  | len h l s => exact .len (n.tup h) l s
  | items h l th => exact .items (n.tup h) l fun u hu => (th u hu).keep n.keep
/-- are_pages' answer of a thing -/
inductive PagesT (K : PySem.W.Frag) (H : Hp) : V → Bool → Prop
  | noseq {x : V} (h : IsSeq K H x false) : PagesT K H x false
  | len {a : Addr} {xs : List V} (h : H a = some (.lst xs) ∨ H a = some (.tup xs)) (l : xs.length < 4 ∨ 512 < xs.length) : PagesT K H (.ref a) false
  | bad {a : Addr} {xs : List V} {i : Nat} {v : V} (h : H a = some (.lst xs) ∨ H a = some (.tup xs)) (l1 : 4 ≤ xs.length) (l2 : xs.length ≤ 512) (up : ∀ j u, j < i → xs[j]? = some u → PageT K H u true) (hv : xs[i]? = some v) (no : PageT K H v false) : PagesT K H (.ref a) false
  | all {a : Addr} {xs : List V} (h : H a = some (.lst xs) ∨ H a = some (.tup xs)) (l1 : 4 ≤ xs.length) (l2 : xs.length ≤ 512) (ok : ∀ u ∈ xs, PageT K H u true) : PagesT K H (.ref a) true
def spArePages (K : PySem.W.Frag) (t1 t2 : Addr) : Sp := fun vs H Q _ => ∃ (x : V) (b : Bool), vs = [x] ∧ PagesT K H x b ∧ (∀ R ∈ [t1, t2], GxR.TabG H R) ∧ ∀ H', Nws [t1, t2] H H' → Q (.bl b) H'
theorem ok_are_pages (D : Defs K mg) (T : Tx K mg) (hc1 : D.is_page.fd.code = .ref c1) (TB1 : GxR.TabB base mg c1 t1) (hc2 : D.are_pages.fd.code = .ref c2) (TB2 : GxR.TabB base mg c2 t2) : FnOk P w K mg base CX0 12 D.are_pages.f D.are_pages.fd ["thing"] (spArePages K t1 t2) := by
  have Gis_page := ok_is_page (P := P) (w := w) (base := base) D T hc1 TB1
  refine okC D.are_pages.F hc2 scarepages (fun vs H Q E h => ?_) (fun A outer s H vs Q E hr h => ?_)
  · obtain ⟨x, b, rfl, _⟩ := h
    rfl
  · obtain ⟨x, b, rfl, pt, tabs, k⟩ := h
    have GS := genA_ok (env := envOfC "are_pages" (defScope scarepages_st) s.heap.objs.size D.are_pages.f (.ref c2))
    have hcode : (cxOf CX0 P w K mg base scarepages_N "are_pages" (defScope scarepages_st) D.are_pages.f (.ref c2) A outer s H E).nox.env.code = .ref c2 := rfl
    refine ⟨_, (pss_cons (ps_if (PW.pt (pw_or (pt_not (pt_val (pe_callB call_is_seq (by rfl) T.b_isinstance (by decide +kernel) (pa_cons (pv 0) (pa_cons (pe_tup (pa_cons (pe_bltn (v := .ty "list") (u := .type "list") (by rfl) T.b_list (by decide +kernel) rfl) (pa_cons (pe_bltn (v := .ty "tuple") (u := .type "tuple") (by rfl) T.b_tuple (by decide +kernel) rfl) pa_nil))) pa_nil))))) (pw_or1 (pt_not (pt_chain op_le op_le (pe_glob (v := .int 4) (by rfl) T.g_LEAST_PAGES ⟨_, rfl⟩) (pe_callB call_len_seq (by rfl) T.b_len (by decide +kernel) (pa_cons (pv 0) pa_nil)) (pe_glob (v := .int 512) (by rfl) T.g_MOST_PAGES ⟨_, rfl⟩)))))) (pss_one (ps_ret pe_bl)) pss_nil)
        (pss_one (ps_ret (pe_or (pe_allL false (k := 8) [] hr (by rfl) T.b_all (by decide +kernel) TB2 hcode GS (pv 0) (by decide) (fun q hq => by cases hq) (fun cv s H ia A hrA => pcall D.is_page Gis_page hrA (by decide) (by rfl) (pa_cons (pv 0) pa_nil)) (fun _ => rfl)) (pe_allL true (k := 8) [] hr (by rfl) T.b_all (by decide +kernel) TB2 hcode GS (pv 0) (by decide) (fun q hq => by cases hq) (fun cv s H ia A hrA => pcall D.is_page Gis_page hrA (by decide) (by rfl) (pa_cons (pv 0) pa_nil)) (fun _ => rfl)))))), ?_⟩
    have m1 : t1 ∈ [t1, t2] := by simp
    have m2 : t2 ∈ [t1, t2] := by simp
    refine ⟨_, rfl, (by show 2 ≤ sizeLine; decide), fun tp htp => ?_⟩
    generalize hG : upd _ _ _ = H1
    obtain ⟨x1, w1⟩ := obj_of htp hG
    clear hG
    have n1 : Nws [t1, t2] H H1 := (Nws.refl tabs).xd x1
    cases pt with
    | noseq h => exact ⟨_, tp, _, rfl, w1, h.keep n1.keep, _, rfl, iteT (k _ n1)⟩
    | @len a xs h l =>
      have h1 : H1 a = some (.lst xs) ∨ H1 a = some (.tup xs) := h.imp n1.lst n1.tup
      have hs : SqL K H1 a xs ∨ SqT K H1 a xs := h1.imp SqL.of SqT.of
      refine ⟨_, tp, _, rfl, w1, isSeq_of h1, _, rfl, iteF ?_⟩
      refine ⟨_, rfl, a, xs, rfl, hs, _, _, rfl, rfl, _, rfl, ?_⟩
      rcases l with l | l
      · rw [decide_eq_false (by omega)]
        exact iteF ⟨_, rfl, iteT (k _ n1)⟩
      · rw [decide_eq_true (by omega)]
        refine iteT ⟨_, _, rfl, rfl, _, rfl, ?_⟩
        rw [decide_eq_false (by omega)]
        exact iteT (k _ n1)
    | @bad a xs i v h l1 l2 up hv no =>
      have h1 : H1 a = some (.lst xs) ∨ H1 a = some (.tup xs) := h.imp n1.lst n1.tup
      have hs : SqL K H1 a xs ∨ SqT K H1 a xs := h1.imp SqL.of SqT.of
      refine ⟨_, tp, _, rfl, w1, isSeq_of h1, _, rfl, iteF ?_⟩
      refine ⟨_, rfl, a, xs, rfl, hs, _, _, rfl, rfl, _, rfl, ?_⟩
      rw [decide_eq_true (by omega)]
      refine iteT ⟨_, _, rfl, rfl, _, rfl, ?_⟩
      rw [decide_eq_true (by omega)]
      refine iteF ?_
      have n12 := Nws.refl n1.tab
      rcases h1 with h1 | h1
      · refine .inl ⟨_, rfl, a, xs, rfl, SqL.of h1, n1.tab t2 m2, fun i' H' => Nws [t1, t2] H1 H' ∧ i' ≤ i, fun H2 t => ⟨Nws.of n1.tab m2 t, Nat.zero_le _⟩, fun i' H' p => SqL.of (p.1.lst h1), fun i' u H' hu p => ?_, fun H' p => ?_⟩
        · have n2 := n1.trans p.1
          rcases Nat.lt_or_eq_of_le p.2 with l | rfl
          · refine ⟨_, rfl, u, _, rfl, (up i' u l hu).nws n2, n2.tab t1 m1, fun H2 n3 => ⟨true, rfl, iteT ⟨p.1.trans (n3.nws p.1.tab m1), l⟩⟩⟩
          · rw [hv] at hu
            cases hu
            refine ⟨_, rfl, v, _, rfl, no.nws n2, n2.tab t1 m1, fun H2 n3 => ⟨false, rfl, iteF ?_⟩⟩
            exact k _ (n2.trans (n3.nws n2.tab m1))
        · have hl := (List.getElem?_eq_some_iff.mp hv).1
          have := p.2
          omega
      · refine .inr ⟨_, rfl, a, xs, rfl, SqT.of h1, n1.tab t2 m2, fun i' H' => Nws [t1, t2] H1 H' ∧ i' ≤ i, fun H2 t => ⟨Nws.of n1.tab m2 t, Nat.zero_le _⟩, fun i' H' p => SqT.of (p.1.tup h1), fun i' u H' hu p => ?_, fun H' p => ?_⟩
        · have n2 := n1.trans p.1
          rcases Nat.lt_or_eq_of_le p.2 with l | rfl
          · refine ⟨_, rfl, u, _, rfl, (up i' u l hu).nws n2, n2.tab t1 m1, fun H2 n3 => ⟨true, rfl, iteT ⟨p.1.trans (n3.nws p.1.tab m1), l⟩⟩⟩
          · rw [hv] at hu
            cases hu
            refine ⟨_, rfl, v, _, rfl, no.nws n2, n2.tab t1 m1, fun H2 n3 => ⟨false, rfl, iteF ?_⟩⟩
            exact k _ (n2.trans (n3.nws n2.tab m1))
        · have hl := (List.getElem?_eq_some_iff.mp hv).1
          have := p.2
          omega
    | @all a xs h l1 l2 ok =>
      have h1 : H1 a = some (.lst xs) ∨ H1 a = some (.tup xs) := h.imp n1.lst n1.tup
      have hs : SqL K H1 a xs ∨ SqT K H1 a xs := h1.imp SqL.of SqT.of
      refine ⟨_, tp, _, rfl, w1, isSeq_of h1, _, rfl, iteF ?_⟩
      refine ⟨_, rfl, a, xs, rfl, hs, _, _, rfl, rfl, _, rfl, ?_⟩
      rw [decide_eq_true (by omega)]
      refine iteT ⟨_, _, rfl, rfl, _, rfl, ?_⟩
      rw [decide_eq_true (by omega)]
      refine iteF ?_
      have n12 := Nws.refl n1.tab
      rcases h1 with h1 | h1
      · refine .inl ⟨_, rfl, a, xs, rfl, SqL.of h1, n1.tab t2 m2, fun i' H' => Nws [t1, t2] H1 H' ∧ True, fun H2 t => ⟨Nws.of n1.tab m2 t, trivial⟩, fun i' H' p => SqL.of (p.1.lst h1), fun i' u H' hu p => ?_, fun H' p => ?_⟩
        · have n2 := n1.trans p.1
          exact ⟨_, rfl, u, _, rfl, (ok u (List.mem_of_getElem? hu)).nws n2, n2.tab t1 m1, fun H2 n3 => ⟨true, rfl, iteT ⟨p.1.trans (n3.nws p.1.tab m1), trivial⟩⟩⟩
        · exact k _ (n1.trans p.1)
      · refine .inr ⟨_, rfl, a, xs, rfl, SqT.of h1, n1.tab t2 m2, fun i' H' => Nws [t1, t2] H1 H' ∧ True, fun H2 t => ⟨Nws.of n1.tab m2 t, trivial⟩, fun i' H' p => SqT.of (p.1.tup h1), fun i' u H' hu p => ?_, fun H' p => ?_⟩
        · have n2 := n1.trans p.1
          exact ⟨_, rfl, u, _, rfl, (ok u (List.mem_of_getElem? hu)).nws n2, n2.tab t1 m1, fun H2 n3 => ⟨true, rfl, iteT ⟨p.1.trans (n3.nws p.1.tab m1), trivial⟩⟩⟩
        · exact k _ (n1.trans p.1)
/-- a walk with numbers over a tuple -/
theorem walk_enumT {K : PySem.W.Frag} {a : Addr} {xs : List V} : Walk (IteT K a) xs.length (fun H => SqT K H a xs) (YPair (fun i => some (.int (i : Nat))) (fun i => xs[i]?)) := by
  refine ⟨fun i H hi h => ⟨xs, xs[i], h, by simp [hi]⟩, fun H h => ⟨xs, h, rfl⟩, fun i H v H' hi h y => ?_⟩
  obtain ⟨T, x, h1, h2, h3, h4⟩ := y
  exact ⟨T, _, x, h1, h2, h3, rfl, h4 xs h⟩
def spDiskOf (K : PySem.W.Frag) (C t1 t2 : Addr) : Sp := fun vs H Q E => ∃ (a : Addr) (as : List Addr) (sh : List (List Nat)), vs = [.ref a] ∧ (∀ R ∈ [t1, t2], GxR.TabG H R) ∧
  (H a = some (.lst (as.map V.ref)) ∨ H a = some (.tup (as.map V.ref))) ∧ 4 ≤ as.length ∧ as.length ≤ 512 ∧ Ali (fun u ns => PgF H ns u) as sh ∧
     ∀ p ls cur H', Nws [t1, t2] H H' → H p = none → H ls = none → DiskAt C H' p ls cur → Ali (fun u ns => PgF H' ns u) cur sh → Q (.ref p) H'
theorem PgF.nws {Ps : List Addr} {a : Addr} {H H' : Hp} {ns : List Nat} (n : Nws Ps H H') (h : PgF H ns a) : PgF H' ns a := ⟨n.tup h.1, h.2⟩
theorem ok_disk_of (D : Defs K mg) (T : Tx K mg) (hc1 : D.is_page.fd.code = .ref c1) (TB1 : GxR.TabB base mg c1 t1) (hc2 : D.are_pages.fd.code = .ref c2) (TB2 : GxR.TabB base mg c2 t2) : FnOk P w K mg base (CX P w) 13 D.disk_of.f D.disk_of.fd ["pages"] (spDiskOf K D.cDisk t1 t2) := by
  have Gare_pages := ok_are_pages (P := P) (w := w) (base := base) D T hc1 TB1 hc2 TB2
  have GDisk___init__ := ok_Disk___init__ (P := P) (w := w) (base := base) (t1 := t1) (t2 := t2) D T
  have GDisk_write := ok_Disk_write (P := P) (w := w) (base := base) (t2 := t2) D T hc1 TB1
  have GNoDisk___init__ := ok_NoDisk___init__ (P := P) (w := w) (base := base) D T
  refine D.disk_of.F.okX scdiskof (fun vs H Q E h => ?_) (fun cdv A outer s H vs Q E hr h => ?_)
  · obtain ⟨a, as, sh, rfl, _⟩ := h
    rfl
  · obtain ⟨a, as, sh, rfl, tabs, ha, l1, l2, al, k⟩ := h
    refine ⟨_, (pss_cons (ps_if (pt_not (pt_val (pcall D.are_pages Gare_pages hr (by decide) (by rfl) (pa_cons (pv 0) pa_nil)))) (pss_one (ps_raise rfl (takes_of rfl rfl rfl rfl) (pmkE D.erNoDisk GNoDisk___init__ rfl rfl rfl rfl rfl hr (by decide) (by rfl) (pa_cons (pv 0) pa_nil)))) pss_nil)
        (pss_cons (ps_set (i := 1) scdiskof.nd rfl (Or.inl rfl) (pmakeX D.mkDisk D.Disk___init__.b GDisk___init__ (takes_of rfl rfl rfl rfl) hr (by decide) (by rfl) D.g_Disk (pa_cons (pe_callB call_len_seq (by rfl) T.b_len (by decide +kernel) (pa_cons (pv 0) pa_nil)) pa_nil)))
        (pss_cons (ps_for PassesOwn.leaving rfl (pi_or (pi_enum (by rfl) T.b_enumerate (pa_cons (pv 0) pa_nil)) (pi_enumT (by rfl) T.b_enumerate (pa_cons (pv 0) pa_nil))) (pg_tup rfl (pgs_cons (pg_name (i := 2) scdiskof.nd rfl (Or.inl rfl)) (pgs_cons (pg_name (i := 3) scdiskof.nd rfl (Or.inl rfl)) pgs_nil))) (pss_one (ps_expr (pmethDX D.Disk_write.h D.Disk_write.bd GDisk_write (takes_of rfl rfl rfl rfl) D.clDisk hr (by decide) (pv 1) (pa_cons (pv 2) (pa_cons (pv 3) pa_nil))))))
        (pss_one (ps_ret (pv 1)))))), ?_⟩
    have pt : PagesT K H (.ref a) true := .all ha (by rw [List.length_map]; exact l1) (by rw [List.length_map]; exact l2) fun u hu => by
      obtain ⟨z, hz, rfl⟩ := List.mem_map.mp hu
      obtain ⟨j, hj⟩ := List.mem_iff_getElem?.mp hz
      obtain ⟨ns, _, r⟩ := al.2 j z hj
      exact r.page
    refine ⟨_, rfl, _, _, rfl, pt, tabs, fun H1 n1 => ?_⟩
    refine ⟨_, rfl, iteF ?_⟩
    have h1 := ha.imp n1.lst n1.tup
    refine ⟨_, rfl, a, _, rfl, h1.imp SqL.of SqT.of, fun p dp hp hdp ne => ?_⟩
    have tabm : ∀ R ∈ [t1, t2], GxR.TabG (upd (upd H1 dp (.own p)) p (.ins D.cDisk dp [])) R := tabs_new (tabs_new n1.tab hdp) (by rw [upd_ne ne.symm]; exact hp)
    refine ⟨p, dp, _, rfl, upd_same, tabm, .inl ⟨as.length, congrArg (fun n : Nat => V.int (n : Int)) (List.length_map _), l1, l2, fun ls B H2 x2 hls w2 wB => ⟨rfl, ?_⟩⟩⟩
    have n1m : Nws [t1, t2] H (upd (upd H1 dp (.own p)) p (.ins D.cDisk dp [])) := (n1.new hdp).new (by rw [upd_ne ne.symm]; exact hp)
    have hp0 : H p = none := n1.free hp
    have n2 := (n1m.xd x2).put (u := .ins D.cDisk dp [("_pages", .ref ls)]) hp0 (x2 _ _ upd_same) (fun q z => by cases z)
    have lsp : ls ≠ p := fun z => by rw [z, upd_same] at hls; cases hls
    have hls0 : H ls = none := n1m.free hls
    have Bp : B ≠ p := fun z => by rw [z, x2 _ _ upd_same] at wB; cases wB
    have w3 : (upd H2 p (.ins D.cDisk dp [("_pages", .ref ls)])) p = some (.ins D.cDisk dp [("_pages", .ref ls)]) := upd_same
    have w4 : (upd H2 p (.ins D.cDisk dp [("_pages", .ref ls)])) ls = some (.lst ((List.replicate as.length B).map V.ref)) := by rw [upd_ne lsp]; exact w2
    have w5 : (upd H2 p (.ins D.cDisk dp [("_pages", .ref ls)])) B = some (.tup (numV blankN)) := by rw [upd_ne Bp]; exact wB
    generalize upd H2 p (.ins D.cDisk dp [("_pages", .ref ls)]) = H3 at n2 w3 w4 w5 ⊢
    have h3 := ha.imp n2.lst n2.tup
    have pgB : PgF H3 blankN B := ⟨w5, rfl, fun n hn => by rw [(List.mem_replicate.mp hn).2]; exact lit_lt (by decide)⟩
    have start : ∀ (j : Nat) (u : Addr), (List.replicate as.length B)[j]? = some u → ∃ ns, PgF H3 ns u ∧ (j < 0 → sh[j]? = some ns) := fun j u e => by
      have := List.mem_of_getElem? e
      rw [(List.mem_replicate.mp this).2]
      exact ⟨_, pgB, fun z => absurd z (Nat.not_lt_zero j)⟩
    rcases ha with ha | ha
    · refine .inl ⟨_, rfl, a, _, rfl, SqL.of (n2.lst ha), for_it (walk_enum (xs := as.map V.ref)) (fun i σ H' => (∃ v2 v3, σ = [some (.ref a), some (.ref p), v2, v3]) ∧ Nws [t1, t2] H H' ∧ ∃ cur : List Addr, DiskAt D.cDisk H' p ls cur ∧ cur.length = as.length ∧ ∀ (j : Nat) (u : Addr), cur[j]? = some u → ∃ ns, PgF H' ns u ∧ (j < i → sh[j]? = some ns)) ⟨⟨_, _, rfl⟩, n2, List.replicate as.length B, ⟨dp, w3, w4⟩, List.length_replicate, start⟩ (fun i σ H' _ q => SqL.of (q.2.1.lst ha)) ?_ ?_⟩
      · rintro i x σ H4 H5 hi ⟨⟨v2, v3, rfl⟩, n4, cur, dk, lcur, tw⟩ ⟨T1, y, z, rfl, hT, rfl, e1, e2⟩
        cases e1
        have hl : i < as.length := by rw [List.length_map] at hi; exact hi
        have e2 : (as.map V.ref)[i]? = some z := e2
        rw [List.getElem?_map, List.getElem?_eq_getElem hl] at e2
        cases e2
        obtain ⟨nsu, hsu, pgu⟩ := al.2 i as[i] (List.getElem?_eq_getElem hl)
        have n5 := n4.new (u := .tup [.int (i : Nat), .ref as[i]]) hT
        have x5 : Exd H4 (upd H4 T1 (.tup [.int (i : Nat), .ref as[i]])) := (Exd.refl H4).new hT
        have dk5 : DiskAt D.cDisk (upd H4 T1 (.tup [.int (i : Nat), .ref as[i]])) p ls cur := by
          obtain ⟨dx, g1, g2⟩ := dk
          exact ⟨dx, x5 _ _ g1, x5 _ _ g2⟩
        refine ⟨T1, _, rfl, SqT.of upd_same, rfl, _, _, rfl, _, _, rfl, rfl, ?_⟩
        generalize upd H4 T1 (.tup [.int (i : Nat), .ref as[i]]) = H5 at n5 dk5 x5 ⊢
        obtain ⟨dx, g1, g2⟩ := id dk5
        have hc : cur[i]? = some cur[i] := List.getElem?_eq_getElem (by omega)
        obtain ⟨nc, pc, _⟩ := tw i _ hc
        have pc5 : PgF H5 nc cur[i] := ⟨x5 _ _ pc.1, pc.2⟩
        have pu5 := pgu.nws n5
        refine ⟨_, rfl, p, dx, _, rfl, g1, rfl, _, rfl, _, rfl, p, ls, cur, i, cur[i], as[i], _, _, .non, rfl, dk5, n5.tab, hc, pc5.twenty, pu5.page, pu5.twenty, .inl ⟨rfl, fun H6 c n6 tc => ?_⟩⟩
        have g2' := n6.lst g2
        have n7 := (n5.trans n6).put (u := .lst ((cur.set i c).map V.ref)) hls0 g2' (fun q z => by cases z)
        have pls : p ≠ ls := lsp.symm
        have tl : ∀ {q : Addr} {xs : List V}, H6 q = some (.tup xs) → q ≠ ls := fun {q xs} e z => by
          rw [z, g2'] at e
          cases e
        refine ⟨⟨_, _, rfl⟩, n7, cur.set i c, ⟨dx, by rw [upd_ne pls]; exact n6.get g1 (fun q z => by cases z), upd_same⟩, by rw [List.length_set]; exact lcur, fun j u e => ?_⟩
        rw [List.getElem?_set] at e
        by_cases q : i = j
        · rw [if_pos q, if_pos (by omega)] at e
          cases e
          subst q
          exact ⟨nsu, ⟨by rw [upd_ne (tl tc.1)]; exact tc.1, pu5.2⟩, fun _ => hsu⟩
        · rw [if_neg q] at e
          obtain ⟨ns, p1, f1⟩ := tw j u e
          have p6 : PgF H6 ns u := PgF.nws n6 ⟨x5 _ _ p1.1, p1.2⟩
          exact ⟨ns, ⟨by rw [upd_ne (tl p6.1)]; exact p6.1, p6.2⟩, fun z => f1 (by omega)⟩
      · rintro σ H4 ⟨⟨v2, v3, rfl⟩, n4, cur, dk, lcur, tw⟩
        refine ⟨_, rfl, k p ls cur H4 n4 hp0 hls0 dk ⟨by rw [lcur]; exact al.1, fun j u e => ?_⟩⟩
        obtain ⟨ns, p1, f1⟩ := tw j u e
        have lj := (List.getElem?_eq_some_iff.mp e).1
        exact ⟨ns, f1 (by rw [List.length_map]; omega), p1⟩
    · refine .inr ⟨_, rfl, a, _, rfl, SqT.of (n2.tup ha), for_it (walk_enumT (xs := as.map V.ref)) (fun i σ H' => (∃ v2 v3, σ = [some (.ref a), some (.ref p), v2, v3]) ∧ Nws [t1, t2] H H' ∧ ∃ cur : List Addr, DiskAt D.cDisk H' p ls cur ∧ cur.length = as.length ∧ ∀ (j : Nat) (u : Addr), cur[j]? = some u → ∃ ns, PgF H' ns u ∧ (j < i → sh[j]? = some ns)) ⟨⟨_, _, rfl⟩, n2, List.replicate as.length B, ⟨dp, w3, w4⟩, List.length_replicate, start⟩ (fun i σ H' _ q => SqT.of (q.2.1.tup ha)) ?_ ?_⟩
      · rintro i x σ H4 H5 hi ⟨⟨v2, v3, rfl⟩, n4, cur, dk, lcur, tw⟩ ⟨T1, y, z, rfl, hT, rfl, e1, e2⟩
        cases e1
        have hl : i < as.length := by rw [List.length_map] at hi; exact hi
        have e2 : (as.map V.ref)[i]? = some z := e2
        rw [List.getElem?_map, List.getElem?_eq_getElem hl] at e2
        cases e2
        obtain ⟨nsu, hsu, pgu⟩ := al.2 i as[i] (List.getElem?_eq_getElem hl)
        have n5 := n4.new (u := .tup [.int (i : Nat), .ref as[i]]) hT
        have x5 : Exd H4 (upd H4 T1 (.tup [.int (i : Nat), .ref as[i]])) := (Exd.refl H4).new hT
        have dk5 : DiskAt D.cDisk (upd H4 T1 (.tup [.int (i : Nat), .ref as[i]])) p ls cur := by
          obtain ⟨dx, g1, g2⟩ := dk
          exact ⟨dx, x5 _ _ g1, x5 _ _ g2⟩
        refine ⟨T1, _, rfl, SqT.of upd_same, rfl, _, _, rfl, _, _, rfl, rfl, ?_⟩
        generalize upd H4 T1 (.tup [.int (i : Nat), .ref as[i]]) = H5 at n5 dk5 x5 ⊢
        obtain ⟨dx, g1, g2⟩ := id dk5
        have hc : cur[i]? = some cur[i] := List.getElem?_eq_getElem (by omega)
        obtain ⟨nc, pc, _⟩ := tw i _ hc
        have pc5 : PgF H5 nc cur[i] := ⟨x5 _ _ pc.1, pc.2⟩
        have pu5 := pgu.nws n5
        refine ⟨_, rfl, p, dx, _, rfl, g1, rfl, _, rfl, _, rfl, p, ls, cur, i, cur[i], as[i], _, _, .non, rfl, dk5, n5.tab, hc, pc5.twenty, pu5.page, pu5.twenty, .inl ⟨rfl, fun H6 c n6 tc => ?_⟩⟩
        have g2' := n6.lst g2
        have n7 := (n5.trans n6).put (u := .lst ((cur.set i c).map V.ref)) hls0 g2' (fun q z => by cases z)
        have pls : p ≠ ls := lsp.symm
        have tl : ∀ {q : Addr} {xs : List V}, H6 q = some (.tup xs) → q ≠ ls := fun {q xs} e z => by
          rw [z, g2'] at e
          cases e
        refine ⟨⟨_, _, rfl⟩, n7, cur.set i c, ⟨dx, by rw [upd_ne pls]; exact n6.get g1 (fun q z => by cases z), upd_same⟩, by rw [List.length_set]; exact lcur, fun j u e => ?_⟩
        rw [List.getElem?_set] at e
        by_cases q : i = j
        · rw [if_pos q, if_pos (by omega)] at e
          cases e
          subst q
          exact ⟨nsu, ⟨by rw [upd_ne (tl tc.1)]; exact tc.1, pu5.2⟩, fun _ => hsu⟩
        · rw [if_neg q] at e
          obtain ⟨ns, p1, f1⟩ := tw j u e
          have p6 : PgF H6 ns u := PgF.nws n6 ⟨x5 _ _ p1.1, p1.2⟩
          exact ⟨ns, ⟨by rw [upd_ne (tl p6.1)]; exact p6.1, p6.2⟩, fun z => f1 (by omega)⟩
      · rintro σ H4 ⟨⟨v2, v3, rfl⟩, n4, cur, dk, lcur, tw⟩
        refine ⟨_, rfl, k p ls cur H4 n4 hp0 hls0 dk ⟨by rw [lcur]; exact al.1, fun j u e => ?_⟩⟩
        obtain ⟨ns, p1, f1⟩ := tw j u e
        have lj := (List.getElem?_eq_some_iff.mp e).1
        exact ⟨ns, f1 (by rw [List.length_map]; omega), p1⟩
end
end LL
namespace LL
open PySem PySem.Spec PyProof.Rows L2
theorem rep_t {K : PySem.W.Frag} {H : Hp} {Q : VK} {v : V} {a : Addr} {n : Int} (ha : H a = none) (h1 : 2 ≤ n) (h2 : n ≤ 1000) (k : ∀ p H', Exd H H' → H' p = some (.tup (List.replicate n.toNat v)) → Q (.ref p) H') : rRepT K (.ref a) (.int n) (upd H a (.tup [v])) Q := by
  refine ⟨_, _, _, rfl, rfl, SqT.of upd_same, (by simp), by omega, by omega, (by show 1 ≤ 1000; decide), fun q hq => k q _ (((Exd.refl H).new ha).new hq) ?_⟩
  rw [upd_same, List.flatten_replicate_singleton]
theorem root_lt {c M : Nat} (h : c < cB) : ∀ n ∈ rootW c M, n < cB := by
  intro n hn
  unfold rootW at hn
  simp only [List.mem_append, List.mem_cons, List.not_mem_nil, or_false] at hn
  rcases hn with ((rfl | rfl) | hn) | (rfl | rfl)
  · exact h
  · exact lit_lt (by decide)
  · rw [cB_32]
    exact wordsM_lt M n hn
  · exact chk_lt _
  · exact h
theorem root_len (c M : Nat) : (rootW c M).length = 20 := by
  unfold rootW
  rw [List.length_append, List.length_append, wordsM_len]
  rfl
section
variable {P : Program} {w : World} {K : PySem.W.Frag} {mg : Str → Option Value} {base : Heap} {c1 c2 t1 t2 : Addr}
def spNumbers : Sp := fun vs H Q _ => ∃ (b : Addr), vs = [.ref b] ∧ Bx H b ∧ ∀ t ns H', Kept b H H' → PgF H' ns t → Q (.ref t) H'
theorem ok__law_numbers (D : Defs K mg) (T : Tx K mg) : FnOk P w K mg base CX0 5 D._law_numbers.f D._law_numbers.fd ["_law_box_here"] spNumbers := by
  have G_law_take := ok__law_take (P := P) (w := w) (base := base) D T
  have G_law_root := ok__law_root (P := P) (w := w) (base := base) D T
  have G_law_count := ok__law_count (P := P) (w := w) (base := base) D T
  have G_law_used := ok__law_used (P := P) (w := w) (base := base) D T
  have G_law_word := ok__law_word (P := P) (w := w) (base := base) D T
  have G_law_many := ok__law_many (P := P) (w := w) (base := base) D T
  have G_law_check := ok__law_check (P := P) (w := w) (base := base) D T
  refine D._law_numbers.F.ok scLnumbers (fun vs H Q E h => ?_) (fun cdv A outer s H vs Q E hr h => ?_)
  · obtain ⟨b, rfl, _⟩ := h
    rfl
  · obtain ⟨b, rfl, bx, k⟩ := h
    refine ⟨_, (pss_cons (ps_set (i := 1) scLnumbers.nd rfl (Or.inl rfl) (pcall D._law_take G_law_take hr (by decide) (by rfl) (pa_cons (pv 0) (pa_cons pe_int pa_nil))))
        (pss_cons (ps_if (pt_cmpR op_eq (pv 1) pe_int (nomark _)) (pss_one (ps_ret (pe_op op_repT (pe_tup (pa_cons pe_int pa_nil)) pe_int))) pss_nil)
        (pss_cons (ps_if (pt_cmpR op_eq (pv 1) pe_int (nomark _)) (pss_one (ps_ret (pcall D._law_root G_law_root hr (by decide) (by rfl) (pa_cons (pcall D._law_count G_law_count hr (by decide) (by rfl) (pa_cons (pv 0) pa_nil)) (pa_cons (pcall D._law_used G_law_used hr (by decide) (by rfl) (pa_cons (pv 0) (pa_cons (pcall D._law_many G_law_many hr (by decide) (by rfl) (pa_cons (pv 0) pa_nil)) pa_nil))) pa_nil))))) pss_nil)
        (pss_cons (ps_if (pt_cmpR op_eq (pv 1) pe_int (nomark _)) (pss_cons (ps_set (i := 2) scLnumbers.nd rfl (Or.inl rfl) (pe_op op_cat (pe_lst (pa_cons (pcall D._law_take G_law_take hr (by decide) (by rfl) (pa_cons (pv 0) (pa_cons pe_int pa_nil))) (pa_cons pe_int (pa_cons (pcall D._law_take G_law_take hr (by decide) (by rfl) (pa_cons (pv 0) (pa_cons pe_int pa_nil))) (pa_cons pe_int (pa_cons (pcall D._law_take G_law_take hr (by decide) (by rfl) (pa_cons (pv 0) (pa_cons pe_int pa_nil))) (pa_cons pe_int (pa_cons pe_int (pa_cons pe_int pa_nil))))))))) (pe_op op_rep (pe_lst (pa_cons pe_int pa_nil)) pe_int)))
        (pss_one (ps_ret (pe_callTy call_tuple_of (by rfl) T.b_tuple (by decide +kernel) (pa_cons (pe_op op_cat (pv 2) (pe_lst (pa_cons (pcall D._law_check G_law_check hr (by decide) (by rfl) (pa_cons (pv 2) pa_nil)) pa_nil))) pa_nil))))) pss_nil)
        (pss_one (ps_ret (pe_callTy call_tuple_of (by rfl) T.b_tuple (by decide +kernel) (pa_cons (pe_lc (own := [("_law_k", 3)]) (g := gName 3) (tt := tYes) rfl scLnumbers.nd (pi_range1 rfl T.b_range (pa_cons pe_int pa_nil)) (blkOk_by (N := scLnumbers_N) (sc := defScope scLnumbers_st) (by decide +kernel)) (fun _ _ _ _ _ => (pg_name (i := 3) scLnumbers.nd rfl (Or.inl rfl))) (fun _ _ _ _ _ => pts_nil) (fun _ _ _ _ _ => (pcall D._law_word G_law_word hr (by decide) (by rfl) (pa_cons (pv 0) pa_nil)))) pa_nil)))))))), ?_⟩
    have hst : L2.start scLnumbers_N [V.ref b] = [some (.ref b), none, none, none] := rfl
    rw [hst]
    have sl : ∀ n : Nat, n ≤ 2000 → n < sizeLine := fun n hn => by
      have := PySem.sizeLine_eq
      omega
    refine ⟨_, rfl, b, 5, rfl, bx, by decide, by decide, fun r H1 r0 r1 k1 => ?_⟩
    refine gset (by (simp only [List.set_cons_succ, List.set_cons_zero]); rfl) ?_
    refine ⟨_, rfl, rfl, _, rfl, ?_⟩
    rw [dec_int]
    by_cases c0 : r = 0
    · rw [c0]
      refine iteT ?_
      refine ⟨(by show 1 ≤ sizeLine; decide), fun q hq => ?_⟩
      try dsimp only [tC]
      refine rep_t hq (by decide) (by decide) fun p H2 x2 w2 => ?_
      exact k p blankN H2 (k1.trans (x2.kept k1.bx)) ⟨w2, rfl, fun n hn => by rw [(List.mem_replicate.mp hn).2]; exact lit_lt (by decide)⟩
    · rw [beq_eq_false_iff_ne.mpr c0]
      refine iteF ?_
      refine ⟨_, rfl, rfl, _, rfl, ?_⟩
      rw [dec_int]
      by_cases c1 : r = 1
      · rw [c1]
        refine iteT ?_
        refine ⟨_, rfl, b, rfl, k1.bx, fun n H2 n1 n2 k2 => ?_⟩
        refine ⟨_, rfl, _, rfl, b, rfl, k2.bx, fun m H3 m4 m5 k3 => ?_⟩
        refine ⟨b, m, rfl, k3.bx, m4, m5, fun p us H4 ri lo lu hp k4 w4 => ?_⟩
        refine ⟨n, p, us, rfl, w4, ri, by omega, n2, fun q H5 x5 hq w5 => ?_⟩
        have kk := ((k1.trans k2).trans k3).trans k4
        exact k q _ H5 (kk.trans (x5.kept kk.bx)) ⟨w5, root_len _ _, root_lt n2⟩
      · rw [beq_eq_false_iff_ne.mpr c1]
        refine iteF ?_
        refine ⟨_, rfl, rfl, _, rfl, ?_⟩
        rw [dec_int]
        by_cases c2 : r = 2
        · rw [c2]
          refine iteT ?_
          refine ⟨_, rfl, b, 3, rfl, k1.bx, by decide, by decide, fun x H2 x0 x1 k2 => ?_⟩
          obtain ⟨x, rfl⟩ := int_of x0
          refine ⟨_, rfl, b, 9, rfl, k2.bx, by decide, by decide, fun y H3 y0 y1 k3 => ?_⟩
          obtain ⟨y, rfl⟩ := int_of y0
          refine ⟨_, rfl, b, 9, rfl, k3.bx, by decide, by decide, fun z H4 z0 z1 k4 => ?_⟩
          obtain ⟨z, rfl⟩ := int_of z0
          refine ⟨(by show 8 ≤ sizeLine; decide), fun p1 hp1 => ?_⟩
          generalize hG : upd _ _ _ = H5
          obtain ⟨x5, w5⟩ := obj_of hp1 hG
          clear hG
          refine ⟨(by show 1 ≤ sizeLine; decide), fun p2 hp2 => ?_⟩
          generalize hG : upd _ _ _ = H6
          obtain ⟨x6, w6⟩ := obj_of hp2 hG
          clear hG
          refine ⟨_, _, _, rfl, rfl, w6, by decide, by decide, (by show 11 ≤ sizeLine; decide), fun p3 hp3 => ?_⟩
          generalize hG : upd _ _ _ = H7
          obtain ⟨x7, w7⟩ := obj_of hp3 hG
          clear hG
          refine ⟨_, _, _, _, rfl, rfl, (x6.trans x7) _ _ w5, w7, (by show 19 ≤ sizeLine; decide), fun p4 hp4 => ?_⟩
          generalize hG : upd _ _ _ = H8
          obtain ⟨x8, w8⟩ := obj_of hp4 hG
          clear hG
          have w8 : H8 p4 = some (.lst (numV ([x, 2, y, 10, z, 37, 0, 0] ++ List.replicate 11 0))) := w8
          have lt19 : ∀ n ∈ [x, 2, y, 10, z, 37, 0, 0] ++ List.replicate 11 0, n < cB := fun n hn => by
            refine lit_lt ?_
            rcases List.mem_append.mp hn with hn | hn
            · simp only [List.mem_cons, List.not_mem_nil, or_false] at hn
              omega
            · rw [(List.mem_replicate.mp hn).2]
              decide
          have l19 : ([x, 2, y, 10, z, 37, 0, 0] ++ List.replicate 11 0).length = 19 := rfl
          generalize [x, 2, y, 10, z, 37, 0, 0] ++ List.replicate 11 0 = ns at w8 lt19 l19
          refine gset (by (simp only [List.set_cons_succ, List.set_cons_zero]); rfl) ?_
          refine ⟨_, rfl, _, rfl, p4, ns, rfl, .inl w8, lt19, (by show 1 ≤ sizeLine; decide), fun p5 hp5 => ?_⟩
          generalize hG : upd _ _ _ = H9
          obtain ⟨x9, w9⟩ := obj_of hp5 hG
          clear hG
          refine ⟨_, _, _, _, rfl, rfl, x9 _ _ w8, w9, (by rw [numV_len, l19]; show 20 ≤ sizeLine; decide), fun p6 hp6 => ?_⟩
          generalize hG : upd _ _ _ = G1
          obtain ⟨y1', w10⟩ := obj_of hp6 hG
          clear hG
          refine ⟨p6, _, rfl, .inl ⟨SqL.of w10, fun tq htq => ?_⟩⟩
          generalize hG : upd _ _ _ = G2
          obtain ⟨y2', w11⟩ := obj_of htq hG
          clear hG
          have kk := ((k1.trans k2).trans k3).trans k4
          have xx := (((((x5.trans x6).trans x7).trans x8).trans x9).trans y1').trans y2'
          have e : numV ns ++ [V.int (chkN ns : Nat)] = numV (ns ++ [chkN ns]) := by
            rw [← numV_app]
            rfl
          refine k tq (ns ++ [chkN ns]) G2 (kk.trans (xx.kept kk.bx)) ⟨by rw [w11, e], by rw [List.length_append, l19]; rfl, fun n hn => ?_⟩
          rcases List.mem_append.mp hn with hn | hn
          · exact lt19 n hn
          · rw [List.mem_singleton.mp hn]
            exact chk_lt ns
        · rw [beq_eq_false_iff_ne.mpr c2]
          refine iteF ?_
          refine ⟨_, rfl, by decide, by decide, fun Dl hDl => ?_⟩
          refine lc_range (lo := 0) (n := (20 : Int).toNat) (fun j H' => ∃ ns : List Nat, ns.length = j ∧ (∀ n ∈ ns, n < cB) ∧ Kept b H1 H' ∧ H' Dl = some (.lst (numV ns))) ⟨[], rfl, (fun n hn => nomatch hn), (Kept.refl k1.bx).new hDl, upd_same⟩ ?_ ?_
          · rintro j' H' hj ⟨ns, ln, lt, kp, w1⟩
            refine ⟨rfl, ?_⟩
            refine ⟨_, rfl, b, rfl, kp.bx, fun n H8 hn k8 => ?_⟩
            have na := k1.bx.ne hDl
            have w3 := k8.old _ _ na w1
            refine ⟨_, w3, by have := sl 20 (by decide); rw [numV_len, ln]; have hj : j' < 20 := hj; omega, ns ++ [n], by rw [List.length_append, ln]; rfl, fun x hx => ?_, (kp.trans k8).put hDl na, ?_⟩
            · rcases List.mem_append.mp hx with hx | hx
              · exact lt x hx
              · rw [List.mem_singleton.mp hx]
                exact hn
            · rw [upd_same, ← numV_app]
              rfl
          · rintro H7 ⟨ns, ln, lt, kp, w7⟩
            have ln : ns.length = 20 := ln
            refine ⟨Dl, _, rfl, .inl ⟨SqL.of w7, fun tq htq => ?_⟩⟩
            generalize hG : upd _ _ _ = H8
            obtain ⟨x8, w8⟩ := obj_of htq hG
            clear hG
            have kk := k1.trans kp
            exact k tq ns H8 (kk.trans (x8.kept kk.bx)) ⟨w8, ln, lt⟩
end
end LL
namespace LL
open PySem PySem.Spec PyProof.Rows L2
theorem pow_new {K : PySem.W.Frag} {C N : Addr} {Ts : List Addr} {H : Hp} {Q : VK} {E : XK} {l : Option Nat} {p dp : Addr} (tabs : ∀ R ∈ Ts, GxR.TabG H R) (hp : H p = none) (hdp : H dp = none) (ne : dp ≠ p)
    (k : ∀ H', Exd H H' → H' p = some (.ins C dp (powF l 0)) → Q .non H') :
    spPowI K C N Ts (.ref p :: ([lv l] ++ [])) (upd (upd H dp (.own p)) p (.ins C dp [])) Q E := by
  have xa : Exd H (upd (upd H dp (.own p)) p (.ins C dp [])) := ((Exd.refl H).new hdp).new (by rw [upd_ne ne.symm]; exact hp)
  refine ⟨p, dp, _, rfl, upd_same, ((Nws.refl tabs).xd xa).tab, .inl ⟨l, rfl, ?_⟩⟩
  rw [upd_upd]
  exact k _ (((Exd.refl H).new hdp).new (by rw [upd_ne ne.symm]; exact hp)) upd_same
/-- a supply of power: what it began with, how much of it was written -/
def SupAt (C : Addr) (H : Hp) (u pw dw : Addr) (M : Option Nat) (s : Nat) : Prop := H u = some (.lst [.ref pw, lv M, .int (s : Int)]) ∧ H pw = some (.ins C dw (powF (M.map fun n => n - s) s)) ∧ ∀ n, M = some n → s ≤ n
section
variable {P : Program} {w : World} {K : PySem.W.Frag} {mg : Str → Option Value} {base : Heap} {c1 c2 t1 t2 : Addr}
def spPower (C : Addr) (t1 t2 : Addr) : Sp := fun vs H Q _ => ∃ (b : Addr), vs = [.ref b] ∧ Bx H b ∧ (∀ R ∈ [t1, t2], GxR.TabG H R) ∧ ∀ u pw dw M H', Go [t1, t2] b H H' → H u = none → H pw = none → SupAt C H' u pw dw M 0 → Q (.ref u) H'
theorem ok__law_power (D : Defs K mg) (T : Tx K mg) : FnOk P w K mg base CX0 6 D._law_power.f D._law_power.fd ["_law_box_here"] (spPower D.cPower t1 t2) := by
  have G_law_take := ok__law_take (P := P) (w := w) (base := base) D T
  have GPower___init__ := ok_Power___init__ (P := P) (w := w) (base := base) (t1 := t1) (t2 := t2) D T
  refine D._law_power.F.ok scLpower (fun vs H Q E h => ?_) (fun cdv A outer s H vs Q E hr h => ?_)
  · obtain ⟨b, rfl, _⟩ := h
    rfl
  · obtain ⟨b, rfl, bx, tabs, k⟩ := h
    refine ⟨_, (pss_cons (ps_set (i := 1) scLpower.nd rfl (Or.inl rfl) (pe_ix ix_list (pe_lst (pa_cons pe_non (pa_cons (pcall D._law_take G_law_take hr (by decide) (by rfl) (pa_cons (pv 0) (pa_cons pe_int pa_nil))) (pa_cons (pcall D._law_take G_law_take hr (by decide) (by rfl) (pa_cons (pv 0) (pa_cons pe_int pa_nil))) (pa_cons (pe_op op_mul pe_int (pcall D._law_take G_law_take hr (by decide) (by rfl) (pa_cons (pv 0) (pa_cons pe_int pa_nil)))) (pa_cons pe_int pa_nil)))))) (pcall D._law_take G_law_take hr (by decide) (by rfl) (pa_cons (pv 0) (pa_cons pe_int pa_nil))) (fun _ _ => rfl)))
        (pss_cons (ps_if (pt_cmpR op_isN (pv 1) pe_non (nomark _)) (pss_one (ps_ret (pe_lst (pa_cons (pe_ix ix_list (pe_lst (pa_cons (pmake0G D.mkPower D.Power___init__.bd GPower___init__ hr (by decide) (by rfl) D.g_Power) (pa_cons (pmakeG D.mkPower D.Power___init__.b GPower___init__ hr (by decide) (by rfl) D.g_Power (pa_cons pe_non pa_nil)) pa_nil))) (pcall D._law_take G_law_take hr (by decide) (by rfl) (pa_cons (pv 0) (pa_cons pe_int pa_nil))) (fun _ _ => rfl)) (pa_cons pe_non (pa_cons pe_int pa_nil)))))) pss_nil)
        (pss_one (ps_ret (pe_lst (pa_cons (pmakeG D.mkPower D.Power___init__.b GPower___init__ hr (by decide) (by rfl) D.g_Power (pa_cons (pv 1) pa_nil)) (pa_cons (pv 1) (pa_cons pe_int pa_nil)))))))), ?_⟩
    have hst : L2.start scLpower_N [V.ref b] = [some (.ref b), none] := rfl
    rw [hst]
    have g0 := Go.refl bx tabs
    refine ⟨_, rfl, b, 25, rfl, bx, by decide, by decide, fun x H1 x0 x1 k1 => ?_⟩
    obtain ⟨x, rfl⟩ := int_of x0
    refine ⟨_, rfl, b, 101, rfl, k1.bx, by decide, by decide, fun y H2 y0 y1 k2 => ?_⟩
    obtain ⟨y, rfl⟩ := int_of y0
    refine ⟨_, rfl, b, 4, rfl, k2.bx, by decide, by decide, fun z H3 z0 z1 k3 => ?_⟩
    obtain ⟨z, rfl⟩ := int_of z0
    refine ⟨_, _, rfl, rfl, .inl ⟨by decide, by decide⟩, ?_⟩
    have g3 := ((g0.kept k1).kept k2).kept k3
    refine ⟨(by show 5 ≤ sizeLine; decide), fun p1 hp1 => ?_⟩
    generalize hG : upd _ _ _ = H4
    obtain ⟨x4, w4⟩ := obj_of hp1 hG
    clear hG
    have g4 := g3.exd x4
    refine ⟨_, rfl, b, 5, rfl, g4.bx, by decide, by decide, fun m H5 m0 m1 k5 => ?_⟩
    have w5 := k5.get g4.bx w4 rfl
    obtain ⟨v, hv, mem⟩ := at_mem (xs := [.non, .int (x : Int), .int (y : Int), .int (20 * (z : Int)), .int 0]) m0 m1
    have al : ∃ M : Option Nat, v = lv M := by
      simp only [List.mem_cons, List.not_mem_nil, or_false] at mem
      rcases mem with rfl | rfl | rfl | rfl | rfl
      · exact ⟨none, rfl⟩
      · exact ⟨some x, rfl⟩
      · exact ⟨some y, rfl⟩
      · exact ⟨some (20 * z), congrArg V.int (by omega)⟩
      · exact ⟨some 0, rfl⟩
    obtain ⟨M, rfl⟩ := al
    refine ⟨p1, _, _, _, rfl, rfl, SqL.of w5, hv, ?_⟩
    refine gset (by (simp only [List.set_cons_succ, List.set_cons_zero]); rfl) ?_
    have g5 := g4.kept k5
    have free : ∀ {q : Addr}, H5 q = none → H q = none := fun {q} h => k1.free (k2.free (k3.free (x4.free (k5.free h))))
    refine ⟨_, rfl, rfl, _, rfl, ?_⟩
    cases M with
    | none =>
      rw [show decide (lv none = V.non) = true from decide_eq_true rfl]
      refine iteT fun q1 d1 hq1 hd1 ne1 => ?_
      refine pow_new (l := none) g5.tab hq1 hd1 ne1 fun H6 x6 w6 => ⟨rfl, ?_⟩
      have g6 := g5.exd x6
      intro q2 d2 hq2 hd2 ne2
      refine pow_new (l := none) g6.tab hq2 hd2 ne2 fun H7 x7 w7 => ⟨rfl, ?_⟩
      have g7 := g6.exd x7
      refine ⟨(by show 2 ≤ sizeLine; decide), fun p2 hp2 => ?_⟩
      generalize hG : upd _ _ _ = H8
      obtain ⟨x8, w8⟩ := obj_of hp2 hG
      clear hG
      have g8 := g7.exd x8
      refine ⟨_, rfl, b, 2, rfl, g8.bx, by decide, by decide, fun j H9 j0 j1 k9 => ?_⟩
      have w9 := k9.get g8.bx w8 rfl
      obtain ⟨v, hv, mem⟩ := at_mem (xs := [.ref q1, .ref q2]) j0 j1
      refine ⟨p2, _, _, _, rfl, rfl, SqL.of w9, hv, (by show 3 ≤ sizeLine; decide), fun u hu => ?_⟩
      generalize hG : upd _ _ _ = H10
      obtain ⟨x10, w10⟩ := obj_of hu hG
      clear hG
      have g10 := (g8.kept k9).exd x10
      have hu0 : H u = none := free (x6.free (x7.free (x8.free (k9.free hu))))
      simp only [List.mem_cons, List.not_mem_nil, or_false] at mem
      rcases mem with rfl | rfl
      · exact k u q1 d1 none H10 g10 hu0 (free hq1) ⟨w10, x10 _ _ (k9.get g8.bx ((x7.trans x8) _ _ w6) rfl), fun n z => by cases z⟩
      · exact k u q2 d2 none H10 g10 hu0 (free (x6.free hq2)) ⟨w10, x10 _ _ (k9.get g8.bx (x8 _ _ w7) rfl), fun n z => by cases z⟩
    | some M =>
      rw [show decide (lv (some M) = V.non) = false from decide_eq_false (fun z => by cases z)]
      refine iteF ?_
      refine ⟨_, rfl, fun q1 d1 hq1 hd1 ne1 => ?_⟩
      refine pow_new (l := some M) g5.tab hq1 hd1 ne1 fun H6 x6 w6 => ⟨rfl, ?_⟩
      have g6 := g5.exd x6
      refine ⟨_, rfl, (by show 3 ≤ sizeLine; decide), fun u hu => ?_⟩
      generalize hG : upd _ _ _ = H10
      obtain ⟨x10, w10⟩ := obj_of hu hG
      clear hG
      exact k u q1 d1 (some M) H10 (g6.exd x10) (free (x6.free hu)) (free hq1) ⟨w10, x10 _ _ w6, fun n z => by cases z; exact Nat.zero_le _⟩
def spRight (C : Addr) : Sp := fun vs H Q _ => ∃ (u pw dw : Addr) (M : Option Nat) (s : Nat), vs = [.ref u] ∧ SupAt C H u pw dw M s ∧ Q (.bl true) H
theorem ok__law_power_right (D : Defs K mg) (T : Tx K mg) : FnOk P w K mg base CX0 2 D._law_power_right.f D._law_power_right.fd ["_law_supply"] (spRight D.cPower) := by
  have GPower_left_over := ok_Power_left_over (P := P) (w := w) (base := base) D T
  have GPower_written := ok_Power_written (P := P) (w := w) (base := base) D T
  refine D._law_power_right.F.ok scLpowerright (fun vs H Q E h => ?_) (fun cdv A outer s0 H vs Q E hr h => ?_)
  · obtain ⟨u, pw, dw, M, s, rfl, _⟩ := h
    rfl
  · obtain ⟨u, pw, dw, M, s, rfl, ⟨hu, hp, le⟩, k⟩ := h
    refine ⟨_, (pss_cons (ps_asg (pv 0) (pg_unl rfl (pgs_cons (pg_name (i := 1) scLpowerright.nd rfl (Or.inl rfl)) (pgs_cons (pg_name (i := 2) scLpowerright.nd rfl (Or.inl rfl)) (pgs_cons (pg_name (i := 3) scLpowerright.nd rfl (Or.inl rfl)) pgs_nil)))))
        (pss_cons (ps_set (i := 4) scLpowerright.nd rfl (Or.inl rfl) (pmeth0 D.Power_left_over GPower_left_over D.clPower hr (by decide) (pv 1)))
        (pss_cons (ps_if (PW.pt (pw_or (pt_cmpR op_ne (pmeth0 D.Power_written GPower_written D.clPower hr (by decide) (pv 1)) (pv 3) (nomark _)) (pw_or1 (pt_val (pe_callB call_is_bool (by rfl) T.b_isinstance (by decide +kernel) (pa_cons (pmeth0 D.Power_written GPower_written D.clPower hr (by decide) (pv 1)) (pa_cons (pe_bltn (v := .ty "bool") (u := .type "bool") (by rfl) T.b_bool (by decide +kernel) rfl) pa_nil))))))) (pss_one (ps_ret pe_bl)) pss_nil)
        (pss_cons (ps_if (pt_cmpR op_isN (pv 2) pe_non (nomark _)) (pss_one (ps_ret (pe_cmpR op_isN (pv 4) pe_non (nomark _)))) pss_nil)
        (pss_one (ps_ret (pe_and (pe_cmpR (op_eqD hr.units) (pv 4) (pe_op op_sub (pv 2) (pv 3)) (nomark _)) (pe_one (pe_not (pe_callB call_is_bool (by rfl) T.b_isinstance (by decide +kernel) (pa_cons (pv 4) (pa_cons (pe_bltn (v := .ty "bool") (u := .type "bool") (by rfl) T.b_bool (by decide +kernel) rfl) pa_nil)))))))))))), ?_⟩
    have hst : L2.start scLpowerright_N [V.ref u] = [some (.ref u), none, none, none, none] := rfl
    rw [hst]
    refine ⟨_, rfl, u, _, rfl, SqL.of hu, rfl, _, _, rfl, ?_⟩
    refine gset (by (simp only [List.set_cons_succ, List.set_cons_zero]); rfl) ?_
    refine ⟨_, _, rfl, ?_⟩
    refine gset (by (simp only [List.set_cons_succ, List.set_cons_zero]); rfl) ?_
    refine ⟨_, _, rfl, ?_⟩
    refine gset (by (simp only [List.set_cons_succ, List.set_cons_zero]); rfl) ?_
    refine ⟨rfl, ?_⟩
    refine ⟨_, rfl, pw, dw, _, rfl, hp, rfl, pw, _, s, rfl, ⟨dw, hp⟩, ?_⟩
    refine gset (by (simp only [List.set_cons_succ, List.set_cons_zero]); rfl) ?_
    refine ⟨_, rfl, pw, dw, _, rfl, hp, rfl, pw, _, s, rfl, ⟨dw, hp⟩, _, rfl, rfl, ?_⟩
    rw [decide_eq_true rfl]
    refine ⟨_, rfl, iteF ?_⟩
    refine ⟨_, rfl, pw, dw, _, rfl, hp, rfl, pw, _, s, rfl, ⟨dw, hp⟩, _, rfl, .int _, ?_⟩
    refine ⟨_, rfl, iteF ?_⟩
    refine ⟨_, rfl, rfl, _, rfl, ?_⟩
    cases M with
    | none =>
      rw [show decide (lv none = V.non) = true from decide_eq_true rfl]
      exact iteT ⟨_, rfl, rfl, k⟩
    | some n =>
      rw [show decide (lv (some n) = V.non) = false from decide_eq_false (fun z => by cases z)]
      refine iteF ⟨_, rfl, _, rfl, _, rfl, _, _, rfl, rfl, ?_⟩
      have := le n rfl
      have e : (n : Int) - (s : Int) = ((n - s : Nat) : Int) := by omega
      refine ⟨.int ((n - s : Nat) : Int), .int ((n : Int) - (s : Int)), .int _, .int _, rfl, rfl, ?_⟩
      rw [e, intEq, decide_eq_true rfl]
      refine ⟨_, rfl, iteT ?_⟩
      exact ⟨_, rfl, _, rfl, .int _, _, rfl, k⟩
end
end LL
namespace LL
open PySem PySem.Spec PyProof.Rows L2
section
variable {P : Program} {w : World} {K : PySem.W.Frag} {mg : Str → Option Value} {base : Heap} {c1 c2 t1 t2 : Addr}
/-- what is told of a writing: none, or how many were written -/
def WrTold (s : Nat) (l : Option Nat) (v : V) (H : Hp) : Prop := (give l = 20 ∧ v = .non) ∨ (give l ≠ 20 ∧ ∃ q, v = .ref q ∧ H q = some (.lst [.str (PyData.shown (.int ((s + give l : Nat) : Int))), .bl false, .bl true]))
def spWrtn (K : PySem.W.Frag) (C CP : Addr) (t1 t2 : Addr) : Sp := fun vs H Q _ => ∃ (p ls : Addr) (as : List Addr) (i : Nat) (a b : Addr) (xa xb : List V) (z : V), vs = [.ref p, .int (i : Int), .ref b, z] ∧ DiskAt C H p ls as ∧ (∀ R ∈ [t1, t2], GxR.TabG H R) ∧
  as[i]? = some a ∧ TwentyX H a xa ∧ PageT K H (.ref b) true ∧ TwentyX H b xb ∧
  ((z = .non ∧ ∀ H1 c, Nws [t1, t2] H H1 → TwentyX H1 c xb → Q .non (upd H1 ls (.lst ((as.set i c).map V.ref)))) ∨
   (∃ (pw dw : Addr) (l : Option Nat) (s : Nat), z = .ref pw ∧ H pw = some (.ins CP dw (powF l s)) ∧ s + give l < 10 ^ 12 ∧
     ∀ (Hm H3 H4 : Hp) (c : Addr) (v : V), Nws [t1, t2] H Hm → Exd (upd Hm pw (.ins CP dw (powF (lessP l) (s + give l)))) H3 → TwentyX H3 c (xb.take (give l) ++ xa.drop (give l)) →
       Exd (upd H3 ls (.lst ((as.set i c).map V.ref))) H4 → WrTold s l v H4 → Q v H4))
theorem ok__law_written (D : Defs K mg) (T : Tx K mg) (hc1 : D.is_page.fd.code = .ref c1) (TB1 : GxR.TabB base mg c1 t1) : FnG P w K mg base 11 D._law_written.f D._law_written.fd ["_law_disk", "_law_number", "_law_numbers_here", "_law_real"] (spWrtn K D.cDisk D.cPower t1 t2) := by
  have GDisk_write := ok_Disk_write (P := P) (w := w) (base := base) (t2 := t2) D T hc1 TB1
  refine fnG_of D._law_written.F scLwritten (fun vs H Q E h => ?_) (fun cdv A outer s H vs Q E guard hr h => ?_)
  · obtain ⟨p, ls, as, i, a, b, xa, xb, z, rfl, _⟩ := h
    rfl
  · obtain ⟨p, ls, as, i, a, b, xa, xb, z, rfl, dk, tabs, hi, ha, pt, hb, k⟩ := h
    have un := un_of hr
    refine ⟨_, (pss_cons (ps_try_manyA rfl rfl scLwritten.nd (fun W pn xe tk _ => (pss_one (ps_if (pt_cmpR op_isN (pv 3) pe_non (nomark _)) (pss_one (ps_set (i := 4) scLwritten.nd rfl (Or.inl rfl) (pmethDX D.Disk_write.h D.Disk_write.bd GDisk_write tk D.clDisk hr (by decide) (pv 0) (pa_cons (pv 1) (pa_cons (pv 2) pa_nil))))) (pss_one (ps_set (i := 4) scLwritten.nd rfl (Or.inl rfl) (pe_methN (pv 0) D.clDisk D.Disk_write.h GDisk_write (hr.mono (by decide)) D.Disk_write_k (fun σ => passAt tk σ) (pa_cons (pv 1) (pa_cons (pv 2) pa_nil)) (pk_cons (pv 3) pk_nil))))))) (.named (i := 5) rfl rfl ⟨rfl, by decide, .inl D.erDark.g⟩ (fun a oe cls d pn hz hf => (pss_one (ps_set (i := 4) scLwritten.nd rfl (Or.inl rfl) (pe_lst (pa_cons (pe_callB (call_reprU guard un) (by rfl) T.b_repr (by decide +kernel) (pa_cons (pe_fldE (X := (cxOf CX0 P w K mg base scLwritten_N "_law_written" (defScope scLwritten_st) D._law_written.f cdv A outer s H E).nox) D.erDark hz hf (pv 5)) pa_nil)) (pa_cons (pe_callB (call_isEX (X := (cxOf CX0 P w K mg base scLwritten_N "_law_written" (defScope scLwritten_st) D._law_written.f cdv A outer s H E).nox) D.excDark hz hf) (by rfl) T.b_isinstance (by decide +kernel) (pa_cons (pv 5) (pa_cons (pe_glob (v := .ref D.erNoPage.C) (by rfl) D.erNoPage.g rfl) pa_nil))) (pa_cons (pe_callB (call_isEX (X := (cxOf CX0 P w K mg base scLwritten_N "_law_written" (defScope scLwritten_st) D._law_written.f cdv A outer s H E).nox) D.excDark hz hf) (by rfl) T.b_isinstance (by decide +kernel) (pa_cons (pv 5) (pa_cons (pe_glob (v := .ref D.lore.C) (by rfl) D.lore.g rfl) pa_nil))) pa_nil))))))) .nil))
        (pss_one (ps_ret (pv 4)))), ?_⟩
    obtain ⟨dx, d1, d2⟩ := id dk
    rcases k with ⟨rfl, k⟩ | ⟨pw, dw, l, n, rfl, hw, ln, k⟩
    · refine ⟨_, rfl, rfl, _, rfl, ?_⟩
      rw [decide_eq_true rfl]
      refine iteT ?_
      refine ⟨_, rfl, p, dx, _, rfl, d1, rfl, _, rfl, _, rfl, p, ls, as, i, a, b, xa, xb, .non, rfl, dk, tabs, hi, ha, pt, hb, .inl ⟨rfl, fun H1 c n1 tc => ?_⟩⟩
      exact ⟨_, rfl, k H1 c n1 tc⟩
    · refine ⟨_, rfl, rfl, _, rfl, ?_⟩
      rw [decide_eq_false (fun z => by cases z)]
      refine iteF ?_
      refine ⟨_, rfl, p, dx, _, rfl, d1, rfl, _, rfl, _, rfl, _, rfl, rfl, rfl, p, ls, as, i, a, b, xa, xb, .ref pw, rfl, dk, tabs, hi, ha, pt, hb, .inr ⟨pw, dw, l, n, rfl, hw, fun Hm H3 c nm x3 tc => ⟨fun e => ?_, fun e d hd => ?_⟩⟩⟩
      · exact ⟨_, rfl, k Hm H3 _ c .non nm x3 tc (Exd.refl _) (.inl ⟨e, rfl⟩)⟩
      · refine ⟨true, D.erDark.te, fun _ a' ha' => ?_, fun z => by cases z⟩
        have bi : BadD (.int ((n + give l : Nat) : Int)) := bad_int (by have : (((n + give l : Nat) : Int)).natAbs = n + give l := rfl; omega)
        have xd : Exd (upd H3 ls (.lst ((as.set i c).map V.ref))) (upd (upd H3 ls (.lst ((as.set i c).map V.ref))) d (.xd [("many", .int ((n + give l : Nat) : Int))])) := (Exd.refl _).new hd
        refine ⟨_, rfl, rfl, rfl, d, _, .int ((n + give l : Nat) : Int), rfl, upd_same, rfl, _, .int ((n + give l : Nat) : Int), rfl, .int _, bi.io, bi.sz, ?_⟩
        refine ⟨_, rfl, .ref D.erNoPage.C, .ref D.erNoPage.C, false, d, _, rfl, rfl, rfl, relV_ref, D.k_Dark_NoPage, upd_same, ?_⟩
        refine ⟨_, rfl, .ref D.lore.C, .ref D.lore.C, true, d, _, rfl, rfl, rfl, relV_ref, D.k_Dark_lore, upd_same, (by show 3 ≤ sizeLine; decide), fun q hq => ?_⟩
        exact ⟨_, rfl, k Hm H3 _ c (.ref q) nm x3 tc (xd.trans ((Exd.refl _).new hq)) (.inr ⟨e, q, rfl, upd_same⟩)⟩
end
end LL
namespace LL
open PySem PySem.Spec PyProof.Rows L2
theorem call_tuple_ofK {X : Cx} {K : PySem.W.Frag} (h : X.K = K) : CallR X (.type "tuple") (fun xs H Q => ∃ p ys, xs = [.ref p] ∧ ((SqL K H p ys ∧ ∀ l, H l = none → Q (.ref l) (upd H l (.tup ys))) ∨ (SqT K H p ys ∧ Q (.ref p) H))) := by
  subst h
  exact call_tuple_of
theorem tup_shaped (ns : List Nat) : SeqAt.shaped (.tuple (ns.map fun n : Nat => PyData.int (n : Int))) = true := by
  have h := natDat_shaped ns
  simp only [natDat, SeqAt.shaped, PyData.canLay0, PyData.depth] at h ⊢
  exact h
/-- a disk and the law's own sheets of it -/
structure Dk (C p ls S : Addr) (as qs : List Addr) (sh : List (List Nat)) (H : Hp) : Prop where
  dk : DiskAt C H p ls as
  pg : Ali (fun u ns => PgF H ns u) as sh
  sl : H S = some (.lst (qs.map V.ref))
  sq : Ali (fun u ns => H u = some (.lst (numV ns))) qs sh
  l4 : 4 ≤ sh.length
  l5 : sh.length ≤ 512
theorem Ali.both {R S : Addr → List Nat → Prop} {as qs : List Addr} {sh : List (List Nat)} (h : Ali R as sh) (g : Ali S qs sh) : Ali (fun u ns => S u ns ∧ ∃ v, R v ns) qs sh := ⟨g.1, fun j u e => by
  obtain ⟨ns, e2, s⟩ := g.2 j u e
  have l := (List.getElem?_eq_some_iff.mp e2).1
  obtain ⟨v, _, r⟩ := h.at l
  have : sh[j] = ns := (List.getElem?_eq_some_iff.mp e2).2
  rw [this] at r
  exact ⟨ns, e2, s, v, r⟩⟩
theorem Dk.keep {C p ls S : Addr} {as qs : List Addr} {sh : List (List Nat)} {H H' : Hp} (d : Dk C p ls S as qs sh H) (k : ∀ a o, noBox o = true → (∀ q, o ≠ .tbl q) → H a = some o → H' a = some o) : Dk C p ls S as qs sh H' := by
  obtain ⟨dx, d1, d2⟩ := d.dk
  refine ⟨⟨dx, k _ _ rfl (fun q z => by cases z) d1, k _ _ (nb_refs _) (fun q z => by cases z) d2⟩, d.pg.imp fun u ns r => ⟨k _ _ rfl (fun q z => by cases z) r.1, r.2⟩, k _ _ (nb_refs _) (fun q z => by cases z) d.sl, ?_, d.l4, d.l5⟩
  refine (d.pg.both d.sq).imp fun u ns r => ?_
  obtain ⟨e, v, pr⟩ := r
  exact k _ _ (nb_len (by rw [numV_len, pr.2.1]; decide)) (fun q z => by cases z) e
theorem Dk.go {Ts : List Addr} {b C p ls S : Addr} {as qs : List Addr} {sh : List (List Nat)} {H H' : Hp} (g : Go Ts b H H') (d : Dk C p ls S as qs sh H) : Dk C p ls S as qs sh H' := d.keep fun a o n t e => g.get e n t
theorem Dk.exd {C p ls S : Addr} {as qs : List Addr} {sh : List (List Nat)} {H H' : Hp} (x : Exd H H') (d : Dk C p ls S as qs sh H) : Dk C p ls S as qs sh H' := d.keep fun a o n t e => x _ _ e
theorem xd_put {H H1 : Hp} {p : Addr} {u : HO} (x : Exd H H1) (hp : H p = none) : Exd H (upd H1 p u) := fun b o e => by
  rw [upd_ne (ne_of_none e hp)]
  exact x _ _ e
section
variable {P : Program} {w : World} {K : PySem.W.Frag} {mg : Str → Option Value} {base : Heap} {c1 c2 t1 t2 : Addr}
def spStands (C t1 t2 : Addr) : Sp := fun vs H Q _ => ∃ (p ls S : Addr) (as qs : List Addr) (sh : List (List Nat)), vs = [.ref p, .ref S] ∧ Dk C p ls S as qs sh H ∧ Wt sh 20 ∧ (∀ R ∈ [t1, t2], GxR.TabG H R) ∧ ∀ H', Exd H H' → Q (.bl true) H'
theorem ok__law_stands (D : Defs K mg) (T : Tx K mg) : FnG P w K mg base 6 D._law_stands.f D._law_stands.fd ["_law_disk", "_law_sheets"] (spStands D.cDisk t1 t2) := by
  have GDisk_pages := ok_Disk_pages (P := P) (w := w) (base := base) D T
  have GDisk_how_many := ok_Disk_how_many (P := P) (w := w) (base := base) D T
  have GDisk_page_at := ok_Disk_page_at (P := P) (w := w) (base := base) (t1 := t1) (t2 := t2) D T
  refine fnG_of D._law_stands.F scLstands (fun vs H Q E h => ?_) (fun cdv A outer s H vs Q E guard hr h => ?_)
  · obtain ⟨p, ls, S, as, qs, sh, rfl, _⟩ := h
    rfl
  · obtain ⟨p, ls, S, as, qs, sh, rfl, d, wt, tabs, k⟩ := h
    refine ⟨_, (pss_cons (ps_set (i := 2) scLstands.nd rfl (Or.inl rfl) (pmeth0 D.Disk_pages GDisk_pages D.clDisk hr (by decide) (pv 0)))
        (pss_cons (ps_if (PW.pt (pw_or (pt_not (pt_val (pe_callB call_is_list (by rfl) T.b_isinstance (by decide +kernel) (pa_cons (pv 2) (pa_cons (pe_bltn (v := .ty "list") (u := .type "list") (by rfl) T.b_list (by decide +kernel) rfl) pa_nil))))) (pw_or1 (pt_cmpR op_ne (pe_callB (call_reprA guard hr) (by rfl) T.b_repr (by decide +kernel) (pa_cons (pv 2) pa_nil)) (pe_callB (call_reprA guard hr) (by rfl) T.b_repr (by decide +kernel) (pa_cons (pe_lc (own := [("_law_sheet", 3)]) (g := gName 3) (tt := tYes) rfl scLstands.nd (pi_list (pv 1)) (blkOk_by (N := scLstands_N) (sc := defScope scLstands_st) (by decide +kernel)) (fun _ _ _ _ _ => (pg_name (i := 3) scLstands.nd rfl (Or.inl rfl))) (fun _ _ _ _ _ => pts_nil) (fun _ _ _ _ _ => (pe_callTy (call_tuple_ofK (K := K) rfl) (by rfl) T.b_tuple (by decide +kernel) (pa_cons (pv 3) pa_nil)))) pa_nil)) (nomark _))))) (pss_one (ps_ret pe_bl)) pss_nil)
        (pss_cons (ps_expr (pe_bm0 PySem.F.plainAttrs_list PySem.F.slot_list_clear PySem.F.type_list_clear mt_clear (pv 2)))
        (pss_one (ps_ret (pe_and (pe_cmpR op_eq (pmeth0 D.Disk_how_many GDisk_how_many D.clDisk hr (by decide) (pv 0)) (pe_callB call_len_seq (by rfl) T.b_len (by decide +kernel) (pa_cons (pv 1) pa_nil)) (nomark _)) (pe_one (pe_cmpR (op_eqD hr.units) (pmethG D.Disk_page_at.h D.Disk_page_at.b GDisk_page_at D.clDisk hr (by decide) (pv 0) (pa_cons (pe_op op_sub (pe_callB call_len_seq (by rfl) T.b_len (by decide +kernel) (pa_cons (pv 1) pa_nil)) pe_int) pa_nil)) (pe_callTy call_tuple_of (by rfl) T.b_tuple (by decide +kernel) (pa_cons (pe_ix ix_list (pv 1) (pe_un un_neg pe_int) (fun _ _ => rfl)) pa_nil)) (nomark _))))))))), ?_⟩
    have hst : L2.start scLstands_N [V.ref p, V.ref S] = [some (.ref p), some (.ref S), none, none] := rfl
    rw [hst]
    have sl : ∀ n : Nat, n ≤ 2000 → n < sizeLine := fun n hn => by
      have := PySem.sizeLine_eq
      omega
    obtain ⟨dx, d1, d2⟩ := d.dk
    refine ⟨_, rfl, p, dx, _, rfl, d1, rfl, p, ls, as, rfl, d.dk, fun l H1 x1 hl w1 => ?_⟩
    refine gset (by (simp only [List.set_cons_succ, List.set_cons_zero]); rfl) ?_
    have dd1 := d.exd x1
    refine ⟨_, rfl, _, _, rfl, .lst (tyX_l w1), _, rfl, iteF ?_⟩
    have bad := sh_bad (sh_td dd1.pg fun u ns r => r.td) wt
    refine ⟨_, rfl, _, shD sh, rfl, .lst w1 (sh_dz dd1.pg), bad.io, bad.sz, ?_⟩
    refine ⟨_, rfl, S, rfl, ⟨_, SqL.of dd1.sl⟩, fun Dl hDl => ?_⟩
    refine lc_list (K := K) (a := S) (xs := qs.map V.ref) (fun j H' => Exd H1 H' ∧ ∃ ts : List Addr, ts.length = j ∧ H' Dl = some (.lst (ts.map V.ref)) ∧ ∀ (i : Nat) (t : Addr), ts[i]? = some t → ∃ ns, sh[i]? = some ns ∧ H' t = some (.tup (numV ns)))
      ⟨(Exd.refl H1).new hDl, [], rfl, upd_same, fun i t e => by cases e⟩ (fun j H' _ q => SqL.of (q.1 _ _ dd1.sl)) ?_ ?_
    · rintro j x H2 hx ⟨x2, ts, lt, w2, al⟩
      rw [List.getElem?_map] at hx
      obtain ⟨q, hq, rfl⟩ : ∃ q, qs[j]? = some q ∧ x = V.ref q := by
        cases e : qs[j]? with
        | none => rw [e] at hx; cases hx
        | some q => rw [e] at hx; cases hx; exact ⟨q, rfl, rfl⟩
      obtain ⟨ns, hns, hqn⟩ := dd1.sq.2 j q hq
      have lj : j < 512 := by
        have := (List.getElem?_eq_some_iff.mp hns).1
        have := d.l5
        omega
      refine ⟨rfl, ?_⟩
      refine ⟨_, rfl, q, _, rfl, .inl ⟨SqL.of (x2 _ _ hqn), fun t ht => ?_⟩⟩
      generalize hG : upd _ _ _ = H3
      obtain ⟨x3, w3⟩ := obj_of ht hG
      clear hG
      have w4 := x3 _ _ w2
      refine ⟨_, w4, by rw [List.length_map, lt]; exact sl _ (by omega), xd_put (x2.trans x3) hDl, ts ++ [t], by rw [List.length_append, lt]; rfl, by rw [upd_same, List.map_append]; rfl, fun i u e => ?_⟩
      rcases Nat.lt_or_ge i ts.length with li | li
      · rw [List.getElem?_append_left li] at e
        obtain ⟨ms, e1, e2⟩ := al i u e
        have e3 := x3 _ _ e2
        exact ⟨ms, e1, by rw [upd_ne (fun z => by rw [z, w4] at e3; cases e3)]; exact e3⟩
      · rw [List.getElem?_append_right li] at e
        have i0 : i - ts.length = 0 := by
          have := (List.getElem?_eq_some_iff.mp e).1
          simp only [List.length_cons, List.length_nil] at this
          omega
        rw [i0] at e
        cases e
        have : i = j := by omega
        subst this
        exact ⟨ns, hns, by rw [upd_ne (fun z => by rw [z, w4] at w3; cases w3)]; exact w3⟩
    · rintro H2 ⟨x2, ts, lt, w2, al⟩
      have lq : qs.length = sh.length := dd1.sq.1
      rw [List.length_map] at lt
      have ali : Ali (fun u ns => PgF H2 ns u) ts sh := by
        refine ⟨by omega, fun i t e => ?_⟩
        obtain ⟨ns, e1, e2⟩ := al i t e
        have l := (List.getElem?_eq_some_iff.mp e1).1
        obtain ⟨u, _, r⟩ := dd1.pg.at l
        have : sh[i] = ns := (List.getElem?_eq_some_iff.mp e1).2
        rw [this] at r
        exact ⟨ns, e1, e2, r.2⟩
      refine ⟨_, shD sh, rfl, .lst w2 (sh_dz ali), bad.io, bad.sz, rfl, ?_⟩
      rw [decide_eq_true rfl]
      refine ⟨_, rfl, iteF ?_⟩
      refine ⟨_, rfl, .inl ⟨rfl, _, SqL.of (x2 _ _ w1)⟩, l, _, rfl, rfl, x2 _ _ w1, ?_⟩
      have x3 : Exd H (upd H2 l (.lst [])) := xd_put (x1.trans x2) hl
      generalize upd H2 l (.lst []) = H3 at x3 ⊢
      have dd3 := d.exd x3
      obtain ⟨dx3, e1, e2⟩ := dd3.dk
      refine ⟨_, rfl, p, dx3, _, rfl, e1, rfl, p, ls, as, rfl, dd3.dk, ?_⟩
      refine ⟨_, rfl, S, _, rfl, .inl (SqL.of dd3.sl), rfl, ?_⟩
      have la : as.length = sh.length := dd3.pg.1
      have lq2 : (qs.map V.ref).length = sh.length := by rw [List.length_map]; exact lq
      rw [la, lq2, decide_eq_true rfl]
      refine ⟨_, rfl, iteT ?_⟩
      have l4 := d.l4
      have lj : sh.length - 1 < sh.length := by omega
      obtain ⟨u, hu, pu⟩ := dd3.pg.at lj
      obtain ⟨q, hq, qn⟩ := dd3.sq.at lj
      refine ⟨_, rfl, p, dx3, _, rfl, e1, rfl, _, rfl, S, _, rfl, .inl (SqL.of dd3.sl), _, _, rfl, rfl, p, ls, as, _, rfl, dd3.dk, ?_, .inl ⟨sh.length - 1, u, ?_, hu, ?_⟩⟩
      · exact ((Nws.refl tabs).xd x3).tab
      · show V.int ((((qs.map V.ref).length : Nat) : Int) - 1) = V.int ((sh.length - 1 : Nat) : Int)
        rw [lq2]
        exact congrArg V.int (by omega)
      · have ql : atI (qs.map V.ref) (-1) = some (.ref q) := by
          unfold atI ixN
          rw [lq2, if_neg (by decide), if_pos (by omega)]
          have e : ((-1 : Int) + (sh.length : Int)).toNat = sh.length - 1 := by omega
          show (qs.map V.ref)[((-1 : Int) + (sh.length : Int)).toNat]? = _
          rw [e, List.getElem?_map, hq]
          rfl
        refine ⟨_, rfl, _, rfl, S, _, _, _, rfl, rfl, SqL.of dd3.sl, ql, q, _, rfl, .inl ⟨SqL.of qn, fun t ht => ?_⟩⟩
        generalize hG : upd _ _ _ = H4
        obtain ⟨x4, w4⟩ := obj_of ht hG
        clear hG
        refine ⟨_, _, .tup (SqT.of (x4 _ _ pu.1)) (nat_dpA _), .tup (SqT.of w4) (nat_dpA _), tup_shaped _, tup_shaped _, ?_⟩
        rw [show PyData.eqv (.tuple ((sh[sh.length - 1]).map fun n : Nat => .int (n : Int))) (.tuple ((sh[sh.length - 1]).map fun n : Nat => .int (n : Int))) = true from tupDat_eqv _]
        exact k _ (x3.trans x4)
end
end LL
namespace LL
open PySem PySem.Spec PyProof.Rows L2
/-! ### what a step keeps: all but the box, the tables and Xs -/
structure Cg (Xs Ts : List Addr) (b : Addr) (H H' : Hp) : Prop where
  old : ∀ a o, a ∉ Xs → a ∉ Ts → a ≠ b → H a = some o → H' a = some o
  bx0 : Bx H b
  bx : Bx H' b
  tab0 : ∀ R ∈ Ts, GxR.TabG H R
  tab : ∀ R ∈ Ts, GxR.TabG H' R
theorem ne_box {H : Hp} {a b : Addr} {o : HO} (bx : Bx H b) (e : H a = some o) (nb : noBox o = true) : a ≠ b := fun z => by
  obtain ⟨ob, eb, x0, y0, z0, rfl, _⟩ := bx
  rw [z, eb] at e
  cases e
  cases nb
section
variable {Xs Ys Ts : List Addr} {b : Addr} {H H1 H2 : Hp}
theorem Cg.refl (bx : Bx H b) (t : ∀ R ∈ Ts, GxR.TabG H R) : Cg Xs Ts b H H := ⟨fun _ _ _ _ _ e => e, bx, bx, t, t⟩
theorem Cg.trans (g : Cg Xs Ts b H H1) (h : Cg Xs Ts b H1 H2) : Cg Xs Ts b H H2 := ⟨fun a o x n m e => h.old a o x n m (g.old a o x n m e), g.bx0, h.bx, g.tab0, h.tab⟩
theorem Go.cg (g : Go Ts b H H1) : Cg Xs Ts b H H1 := ⟨fun a o _ n m e => g.old a o n m e, g.bx0, g.bx, g.tab0, g.tab⟩
theorem Cg.go (g : Cg Xs Ts b H H1) (h : Go Ts b H1 H2) : Cg Xs Ts b H H2 := g.trans h.cg
theorem Cg.exd (g : Cg Xs Ts b H H1) (x : Exd H1 H2) : Cg Xs Ts b H H2 := g.go ((Go.refl g.bx g.tab).exd x)
theorem Cg.kept (g : Cg Xs Ts b H H1) (k : Kept b H1 H2) : Cg Xs Ts b H H2 := g.go ((Go.refl g.bx g.tab).kept k)
theorem Cg.nws (g : Cg Xs Ts b H H1) (n : Nws Ts H1 H2) : Cg Xs Ts b H H2 := g.go ((Go.refl g.bx g.tab).nws n)
theorem Cg.mono (g : Cg Xs Ts b H H1) (m : ∀ x ∈ Xs, x ∈ Ys) : Cg Ys Ts b H H1 := ⟨fun a o x n k e => g.old a o (fun z => x (m a z)) n k e, g.bx0, g.bx, g.tab0, g.tab⟩
theorem Cg.put {p : Addr} {u o : HO} (g : Cg Xs Ts b H H1) (m : p ∈ Xs) (ho : H1 p = some o) (nb : noBox o = true) (nt : ∀ q, o ≠ .tbl q) : Cg Xs Ts b H (upd H1 p u) := by
  have pb : p ≠ b := ne_box g.bx ho nb
  refine ⟨fun a o2 x h k e => ?_, g.bx0, ?_, g.tab0, fun R hR => tab_upd (g.tab R hR) (fun z => tab_ne (g.tab R hR) ho nt z.symm)⟩
  · rw [upd_ne (fun z => x (by rw [z]; exact m))]
    exact g.old a o2 x h k e
  · obtain ⟨ob, e, bo⟩ := g.bx
    exact ⟨ob, by rw [upd_ne (fun z => pb z.symm)]; exact e, bo⟩
theorem Cg.get {a : Addr} {o : HO} (g : Cg Xs Ts b H H1) (nx : a ∉ Xs) (e : H a = some o) (nb : noBox o = true) (nt : ∀ q, o ≠ .tbl q) : H1 a = some o := g.old a o nx (tabs_ne g.tab0 e nt) (ne_box g.bx0 e nb) e
end
theorem refs_nums {as : List Addr} {ns : List Nat} (l : ns.length = 20) : HO.lst (as.map V.ref) ≠ .lst (numV ns) := fun z => by
  cases as with
  | nil =>
    cases ns with
    | nil => cases l
    | cons n ns => cases z
  | cons a as =>
    cases ns with
    | nil => cases l
    | cons n ns => cases z
/-- Xs hold no pages, no sheets and no disks -/
structure Far (Xs : List Addr) (H : Hp) : Prop where
  tup : ∀ a xs, H a = some (.tup xs) → a ∉ Xs
  num : ∀ a ns, ns.length = 20 → H a = some (.lst (numV ns)) → a ∉ Xs
  dsk : ∀ a dx C ls, H a = some (.ins C dx [("_pages", .ref ls)]) → a ∉ Xs
theorem Far.nil {H : Hp} : Far [] H := ⟨(fun _ _ _ m => nomatch m), (fun _ _ _ _ m => nomatch m), (fun _ _ _ _ _ m => nomatch m)⟩
theorem Far.cons {x : Addr} {o : HO} {Xs : List Addr} {H : Hp} (hx : H x = some o) (n1 : ∀ xs, o ≠ .tup xs) (n2 : ∀ ns : List Nat, ns.length = 20 → o ≠ .lst (numV ns)) (n3 : ∀ C dx ls, o ≠ .ins C dx [("_pages", .ref ls)]) (f : Far Xs H) : Far (x :: Xs) H := by
  refine ⟨fun a xs e m => ?_, fun a ns l e m => ?_, fun a dx C ls e m => ?_⟩
  · rcases List.mem_cons.mp m with rfl | m
    · rw [hx] at e
      exact n1 xs (Option.some.inj e)
    · exact f.tup a xs e m
  · rcases List.mem_cons.mp m with rfl | m
    · rw [hx] at e
      exact n2 ns l (Option.some.inj e)
    · exact f.num a ns l e m
  · rcases List.mem_cons.mp m with rfl | m
    · rw [hx] at e
      exact n3 C dx ls (Option.some.inj e)
    · exact f.dsk a dx C ls e m
theorem Far.refs {x : Addr} {as : List Addr} {Xs : List Addr} {H : Hp} (hx : H x = some (.lst (as.map V.ref))) (f : Far Xs H) : Far (x :: Xs) H :=
  f.cons hx (fun _ z => by cases z) (fun ns l => refs_nums l) (fun _ _ _ z => by cases z)
theorem Far.sup {C u pw dw : Addr} {M : Option Nat} {s : Nat} {Xs : List Addr} {H : Hp} (h : SupAt C H u pw dw M s) (f : Far Xs H) : Far (u :: pw :: Xs) H := by
  refine Far.cons h.1 (fun _ z => by cases z) (fun ns l z => ?_) (fun _ _ _ z => by cases z) (Far.cons h.2.1 (fun _ z => by cases z) (fun _ _ z => by cases z) (fun _ _ _ z => ?_) f)
  · cases ns with
    | nil => cases l
    | cons n ns => cases z
  · unfold powF at z
    cases z
theorem Dk.far {C p ls S : Addr} {as qs : List Addr} {sh : List (List Nat)} {H : Hp} (d : Dk C p ls S as qs sh H) : Far [ls, S] H := by
  obtain ⟨dx, _, e⟩ := d.dk
  exact Far.refs e (Far.refs d.sl .nil)
theorem Dk.cg {Xs Ts : List Addr} {b C p ls S : Addr} {as qs : List Addr} {sh : List (List Nat)} {H H' : Hp} (d : Dk C p ls S as qs sh H) (g : Cg Xs Ts b H H') (f : Far Xs H) (n1 : ls ∉ Xs) (n2 : S ∉ Xs) : Dk C p ls S as qs sh H' := by
  obtain ⟨dx, d1, d2⟩ := d.dk
  refine ⟨⟨dx, g.get (f.dsk _ _ _ _ d1) d1 rfl (fun q z => by cases z), g.get n1 d2 (nb_refs _) (fun q z => by cases z)⟩, d.pg.imp fun u ns r => ⟨g.get (f.tup _ _ r.1) r.1 rfl (fun q z => by cases z), r.2⟩, g.get n2 d.sl (nb_refs _) (fun q z => by cases z), ?_, d.l4, d.l5⟩
  refine (d.pg.both d.sq).imp fun u ns r => ?_
  obtain ⟨e, v, pr⟩ := r
  exact g.get (f.num _ _ pr.2.1 e) e (nb_len (by rw [numV_len, pr.2.1]; decide)) (fun q z => by cases z)
/-- a page more was written -/
theorem Dk.set {Xs Ts : List Addr} {b C p ls S c q : Addr} {as qs : List Addr} {sh : List (List Nat)} {ns : List Nat} {i : Nat} {H H' : Hp} (d : Dk C p ls S as qs sh H) (f : Far Xs H) (g : Cg Xs Ts b H H')
    (h1 : H' ls = some (.lst ((as.set i c).map V.ref))) (h2 : H' S = some (.lst ((qs.set i q).map V.ref))) (h3 : PgF H' ns c) (h4 : H' q = some (.lst (numV ns))) : Dk C p ls S (as.set i c) (qs.set i q) (sh.set i ns) H' := by
  obtain ⟨dx, d1, d2⟩ := d.dk
  refine ⟨⟨dx, g.get (f.dsk _ _ _ _ d1) d1 rfl (fun q z => by cases z), h1⟩, Ali.set (d.pg.imp fun u ns r => ⟨g.get (f.tup _ _ r.1) r.1 rfl (fun q z => by cases z), r.2⟩) h3, h2, Ali.set ?_ h4, by rw [List.length_set]; exact d.l4, by rw [List.length_set]; exact d.l5⟩
  refine (d.pg.both d.sq).imp fun u ns r => ?_
  obtain ⟨e, v, pr⟩ := r
  exact g.get (f.num _ _ pr.2.1 e) e (nb_len (by rw [numV_len, pr.2.1]; decide)) (fun q z => by cases z)
theorem Cg.fresh {Xs Ts : List Addr} {b p : Addr} {u o : HO} {H H1 : Hp} (g : Cg Xs Ts b H H1) (hp : H p = none) (ho : H1 p = some o) (nt : ∀ q, o ≠ .tbl q) : Cg Xs Ts b H (upd H1 p u) := by
  have pb : p ≠ b := g.bx0.ne hp
  refine ⟨fun a o2 x h k e => ?_, g.bx0, ?_, g.tab0, fun R hR => tab_upd (g.tab R hR) (fun z => tab_ne (g.tab R hR) ho nt z.symm)⟩
  · rw [upd_ne (ne_of_none e hp)]
    exact g.old a o2 x h k e
  · obtain ⟨ob, e, bo⟩ := g.bx
    exact ⟨ob, by rw [upd_ne (fun z => pb z.symm)]; exact e, bo⟩
theorem Cg.free {Xs Ts : List Addr} {b p : Addr} {H H1 : Hp} (g : Cg Xs Ts b H H1) (al : ∀ x ∈ Xs, ∃ o, H1 x = some o) (e : H1 p = none) : H p = none := by
  cases h : H p with
  | none => rfl
  | some o =>
    by_cases x : p ∈ Xs
    · obtain ⟨o2, h2⟩ := al p x
      rw [e] at h2
      cases h2
    · by_cases t : p ∈ Ts
      · obtain ⟨ps, h2, _⟩ := g.tab p t
        rw [e] at h2
        cases h2
      · by_cases y : p = b
        · obtain ⟨ob, h2, _⟩ := g.bx
          rw [← y, e] at h2
          cases h2
        · rw [g.old p o x t y h] at e
          cases e
theorem Go.free {Ts : List Addr} {b p : Addr} {H H1 : Hp} (g : Go Ts b H H1) (e : H1 p = none) : H p = none := (g.cg (Xs := [])).free (fun x m => nomatch m) e
theorem Dk.ne {C p ls S : Addr} {as qs : List Addr} {sh : List (List Nat)} {H : Hp} (d : Dk C p ls S as qs sh H) : S ≠ ls := fun z => by
  obtain ⟨dx, _, e⟩ := d.dk
  have l : 0 < sh.length := by have := d.l4; omega
  obtain ⟨u, hu, pu⟩ := d.pg.at l
  obtain ⟨q, hq, qn⟩ := d.sq.at l
  have s := d.sl
  rw [z, e] at s
  injection s with s
  injection s with s
  have h1 : (as.map V.ref)[0]? = some (.ref u) := by rw [List.getElem?_map, hu]; rfl
  have h2 : (qs.map V.ref)[0]? = some (.ref q) := by rw [List.getElem?_map, hq]; rfl
  rw [s, h2] at h1
  injection h1 with h1
  injection h1 with h1
  rw [h1, pu.1] at qn
  cases qn
theorem Dk.wrote {Xs Ts : List Addr} {b C p ls S c q : Addr} {as qs : List Addr} {sh : List (List Nat)} {ns : List Nat} {i : Nat} {H H1 : Hp} (d : Dk C p ls S as qs sh H) (f : Far Xs H) (m : ls ∈ Xs) (g : Cg Xs Ts b H H1)
    (hl : H1 ls = some (.lst (as.map V.ref))) (hS : H1 S = some (.lst ((qs.set i q).map V.ref))) (hq : H1 q = some (.lst (numV ns))) (hc : PgF H1 ns c) :
    Cg Xs Ts b H (upd H1 ls (.lst ((as.set i c).map V.ref))) ∧ Dk C p ls S (as.set i c) (qs.set i q) (sh.set i ns) (upd H1 ls (.lst ((as.set i c).map V.ref))) := by
  have g2 : Cg Xs Ts b H (upd H1 ls (.lst ((as.set i c).map V.ref))) := g.put m hl (nb_refs _) (fun q z => by cases z)
  refine ⟨g2, d.set f g2 upd_same (by rw [upd_ne d.ne]; exact hS) ⟨?_, hc.2⟩ ?_⟩
  · rw [upd_ne (fun z => by have := hc.1; rw [z, hl] at this; cases this)]
    exact hc.1
  · rw [upd_ne (fun z => by have := hq; rw [z, hl] at this; injection this with this; exact refs_nums hc.2.1 this)]
    exact hq
theorem map_set (qs : List Addr) (i : Nat) (q : Addr) : (qs.map V.ref).set i (.ref q) = (qs.set i q).map V.ref := by rw [List.map_set]
end LL
namespace LL
open PySem PySem.Spec PyProof.Rows L2
theorem half_sheet {K : PySem.W.Frag} {H : Hp} {Q : VK} {v0 v1 v3 : V} {v7 : Option V} {S t q0 : Addr} {i g : Nat} {qs : List Addr} {xb xo : List V} (ht : H t = some (.tup xb)) (lb : xb.length = 20) (hS : H S = some (.lst (qs.map V.ref))) (hi : qs[i]? = some q0) (ho : H q0 = some (.lst xo)) (lo : xo.length = 20) (hg : g ≤ 20)
    (k : ∀ c H', Exd H H' → H c = none → H' c = some (.lst (xb.take g ++ xo.drop g)) → Q (.ref c) H') :
    tOp rCat (tCB (fun xs H Q => ∃ p ys, xs = [V.ref p] ∧ (SqL K H p ys ∨ SqT K H p ys) ∧ ∀ l, H l = none → Q (.ref l) (upd H l (.lst ys))) (tCons (tSl (rSlA K) (tVar 5) tNoPart (tPart (tVar 6))) tNil)) (tSl (rSlL K) (tOp (rIxL K) (tVar 2) (tVar 4)) (tPart (tVar 6)) tNoPart) [some v0, some v1, some (.ref S), some v3, some (.int (i : Int)), some (.ref t), some (.int (g : Int)), v7] H Q := by
  have sz : ∀ n : Nat, n ≤ 100 → n ≤ sizeLine := fun n hn => by
    have := PySem.sizeLine_eq
    omega
  have rest : ∀ l H1, Exd H H1 → H l = none → H1 l = some (.lst (xb.take g)) → tSl (rSlL K) (tOp (rIxL K) (tVar 2) (tVar 4)) (tPart (tVar 6)) tNoPart [some v0, some v1, some (.ref S), some v3, some (.int (i : Int)), some (.ref t), some (.int (g : Int)), v7] H1 (fun y H2 => rCat (.ref l) y H2 Q) := by
    intro l H1 x1 hl w1
    refine ⟨_, rfl, _, rfl, S, _, _, _, rfl, rfl, SqL.of (x1 _ _ hS), atI_nat (j := i) (by rw [List.getElem?_map, hi]; rfl), _, rfl, (g : Int), rfl, q0, xo, rfl, SqL.of (x1 _ _ ho), fun p5 hp5 => ?_⟩
    rw [cut_from _ _ (by omega)]
    generalize hG : upd _ _ _ = H2
    obtain ⟨x2, w2⟩ := obj_of hp5 hG
    clear hG
    refine ⟨_, _, _, _, rfl, rfl, x2 _ _ w1, w2, ?_, fun p6 hp6 => ?_⟩
    · refine sz _ ?_
      rw [List.length_take, List.length_drop]
      omega
    · exact k p6 _ ((x1.trans x2).new hp6) (x1.free (x2.free hp6)) upd_same
  refine ⟨_, rfl, _, rfl, (g : Int), rfl, t, xb, rfl, SqT.of ht, fun z => ?_, fun z p4 hp4 => ?_⟩
  · have e : g = 20 := by
      have z := z.2
      rw [HT.sIx_nat, lb] at z
      omega
    refine ⟨t, xb, rfl, .inr (SqT.of ht), fun l hl => ?_⟩
    have te : xb.take g = xb := List.take_of_length_le (by omega)
    have r := rest l (upd H l (.lst xb)) ((Exd.refl H).new hl) hl (by rw [te]; exact upd_same)
    exact r
  · rw [cut_to]
    generalize hG : upd _ _ _ = H4
    obtain ⟨x4, w4⟩ := obj_of hp4 hG
    clear hG
    refine ⟨p4, _, rfl, .inr (SqT.of w4), fun l hl => ?_⟩
    exact rest l _ (x4.new hl) (x4.free hl) upd_same
theorem sup_refs {pw : Addr} {M : Option Nat} {s : Nat} (as : List Addr) : HO.lst [.ref pw, lv M, .int (s : Int)] ≠ .lst (as.map V.ref) := fun z => by
  injection z with z
  have h : (as.map V.ref)[2]? = some (.int (s : Int)) := by rw [← z]; rfl
  rw [List.getElem?_map] at h
  cases e : as[2]? with
  | none => rw [e] at h; cases h
  | some a => rw [e] at h; cases h
theorem sup_num {pw : Addr} {M : Option Nat} {s : Nat} {ns : List Nat} (l : ns.length = 20) : HO.lst [.ref pw, lv M, .int (s : Int)] ≠ .lst (numV ns) := fun z => by
  cases ns with
  | nil => cases l
  | cons n ns => cases z
theorem wr_shaped {z : Str} (h : PyData.strOk z = true) : SeqAt.shaped (.list [.str z, .bool false, .bool true]) = true := by
  simp [SeqAt.shaped, PyData.canLay0, PyData.canLayAll0, PyData.depth, PyData.depthAll, h]
theorem wr_eqv (z : Str) : PyData.eqv (.list [.str z, .bool false, .bool true]) (.list [.str z, .bool false, .bool true]) = true := by
  simp [PyData.eqv, PyData.eqvAll]
section
variable {P : Program} {w : World} {K : PySem.W.Frag} {mg : Str → Option Value} {base : Heap} {c1 c2 t1 t2 : Addr}
def spStep (C CP t1 t2 : Addr) : Sp := fun vs H Q _ => ∃ (b p ls S : Addr) (as qs : List Addr) (sh : List (List Nat)) (z : V), vs = [.ref b, .ref p, .ref S, z] ∧ Bx H b ∧ (∀ R ∈ [t1, t2], GxR.TabG H R) ∧ Dk C p ls S as qs sh H ∧
  ((z = .non ∧ ∀ (i : Nat) (ns : List Nat) (as' qs' : List Addr) H', (tupDat ns).weight ≤ 820 → Cg [ls, S] [t1, t2] b H H' → Dk C p ls S as' qs' (sh.set i ns) H' → Q (.bl true) H') ∨
   (∃ (u pw dw : Addr) (M : Option Nat) (s : Nat), z = .ref u ∧ SupAt CP H u pw dw M s ∧ s ≤ 1000 ∧ ∀ (i : Nat) (ns : List Nat) (as' qs' : List Addr) (s' : Nat) H', (tupDat ns).weight ≤ 820 → s' ≤ s + 20 → Cg [u, pw, ls, S] [t1, t2] b H H' → Dk C p ls S as' qs' (sh.set i ns) H' → SupAt CP H' u pw dw M s' → Q (.bl true) H'))
theorem ok__law_step (D : Defs K mg) (T : Tx K mg) (hc1 : D.is_page.fd.code = .ref c1) (TB1 : GxR.TabB base mg c1 t1) : FnG P w K mg base 12 D._law_step.f D._law_step.fd ["_law_box_here", "_law_disk", "_law_sheets", "_law_supply"] (spStep D.cDisk D.cPower t1 t2) := by
  have G_law_take := ok__law_take (P := P) (w := w) (base := base) D T
  have G_law_numbers := ok__law_numbers (P := P) (w := w) (base := base) D T
  have G_law_written := ok__law_written (P := P) (w := w) (base := base) (t2 := t2) D T hc1 TB1
  have G_law_power_right := ok__law_power_right (P := P) (w := w) (base := base) D T
  have GPower___init__ := ok_Power___init__ (P := P) (w := w) (base := base) (t1 := t1) (t2 := t2) D T
  refine fnG_of D._law_step.F scLstep (fun vs H Q E h => ?_) (fun cdv A outer s H vs Q E guard hr h => ?_)
  · obtain ⟨b, p, ls, S, as, qs, sh, z, rfl, _⟩ := h
    rfl
  · obtain ⟨b, p, ls, S, as, qs, sh, z, rfl, bx, tabs, d, k⟩ := h
    refine ⟨_, (pss_cons (ps_set (i := 4) scLstep.nd rfl (Or.inl rfl) (pe_ix ix_list (pe_lst (pa_cons (pcall D._law_take G_law_take hr (by decide) (by rfl) (pa_cons (pv 0) (pa_cons (pe_callB call_len_seq (by rfl) T.b_len (by decide +kernel) (pa_cons (pv 2) pa_nil)) pa_nil))) (pa_cons (pcall D._law_take G_law_take hr (by decide) (by rfl) (pa_cons (pv 0) (pa_cons pe_int pa_nil))) (pa_cons (pe_op op_sub (pe_callB call_len_seq (by rfl) T.b_len (by decide +kernel) (pa_cons (pv 2) pa_nil)) pe_int) pa_nil)))) (pcall D._law_take G_law_take hr (by decide) (by rfl) (pa_cons (pv 0) (pa_cons pe_int pa_nil))) (fun _ _ => rfl)))
        (pss_cons (ps_set (i := 5) scLstep.nd rfl (Or.inl rfl) (pcall D._law_numbers G_law_numbers hr (by decide) (by rfl) (pa_cons (pv 0) pa_nil)))
        (pss_cons (ps_if (pt_cmpR op_isN (pv 3) pe_non (nomark _)) (pss_cons (ps_asg (pe_callTy call_list_of (by rfl) T.b_list (by decide +kernel) (pa_cons (pv 5) pa_nil)) (pg_sub (pv 2) (pv 4) set_list))
        (pss_one (ps_ret (pe_cmpR op_isN (pcallG D._law_written G_law_written guard hr (by decide) (by rfl) (pa_cons (pv 1) (pa_cons (pv 4) (pa_cons (pv 5) (pa_cons (pe_ix ix_list (pe_lst (pa_cons pe_non (pa_cons (pmake0G D.mkPower D.Power___init__.bd GPower___init__ hr (by decide) (by rfl) D.g_Power) pa_nil))) (pcall D._law_take G_law_take hr (by decide) (by rfl) (pa_cons (pv 0) (pa_cons pe_int pa_nil))) (fun _ _ => rfl)) pa_nil))))) pe_non (nomark _))))) pss_nil)
        (pss_cons (ps_set (i := 6) scLstep.nd rfl (Or.inl rfl) pe_int)
        (pss_cons (ps_if (pt_cmpR op_notN (pe_ix ix_list (pv 3) pe_int (fun _ _ => rfl)) pe_non (nomark _)) (pss_one (ps_set (i := 6) scLstep.nd rfl (Or.inl rfl) (pe_callB (call_min2 rfl) (by rfl) T.b_min (by decide +kernel) (pa_cons pe_int (pa_cons (pe_op op_sub (pe_ix ix_list (pv 3) pe_int (fun _ _ => rfl)) (pe_ix ix_list (pv 3) pe_int (fun _ _ => rfl))) pa_nil))))) pss_nil)
        (pss_cons (ps_asg (pe_op op_cat (pe_callTy call_list_of (by rfl) T.b_list (by decide +kernel) (pa_cons (pe_slice sl_tupA (pv 5) po_none (po_some (pv 6))) pa_nil)) (pe_slice sl_list (pe_ix ix_list (pv 2) (pv 4) (fun _ _ => rfl)) (po_some (pv 6)) po_none)) (pg_sub (pv 2) (pv 4) set_list))
        (pss_cons (ps_asg (pe_op op_add (pe_ix ix_list (pv 3) pe_int (fun _ _ => rfl)) (pv 6)) (pg_sub (pv 3) pe_int set_list))
        (pss_cons (ps_set (i := 7) scLstep.nd rfl (Or.inl rfl) (pe_lst (pa_cons (pe_callB (call_reprA guard hr) (by rfl) T.b_repr (by decide +kernel) (pa_cons (pe_ix ix_list (pv 3) pe_int (fun _ _ => rfl)) pa_nil)) (pa_cons pe_bl (pa_cons pe_bl pa_nil)))))
        (pss_cons (ps_if (pt_cmpR op_eq (pv 6) pe_int (nomark _)) (pss_one (ps_set (i := 7) scLstep.nd rfl (Or.inl rfl) pe_non)) pss_nil)
        (pss_one (ps_ret (pe_and (pe_cmpR (op_eqD hr.units) (pcallG D._law_written G_law_written guard hr (by decide) (by rfl) (pa_cons (pv 1) (pa_cons (pv 4) (pa_cons (pv 5) (pa_cons (pe_ix ix_list (pv 3) pe_int (fun _ _ => rfl)) pa_nil))))) (pv 7) (nomark _)) (pe_one (pcall D._law_power_right G_law_power_right hr (by decide) (by rfl) (pa_cons (pv 3) pa_nil))))))))))))))), ?_⟩
    have hst : L2.start scLstep_N [V.ref b, V.ref p, V.ref S, z] = [some (.ref b), some (.ref p), some (.ref S), some z, none, none, none, none] := rfl
    rw [hst]
    have l4 := d.l4
    have l5 := d.l5
    have lq : (qs.map V.ref).length = sh.length := by rw [List.length_map]; exact d.sq.1
    have g0 : Go [t1, t2] b H H := Go.refl bx tabs
    refine ⟨_, rfl, _, rfl, S, _, rfl, .inl (SqL.of d.sl), b, _, rfl, bx, by rw [lq]; omega, by rw [lq]; omega, fun x H1 x0 x1 k1 => ?_⟩
    rw [lq] at x1
    obtain ⟨x, rfl⟩ := int_of x0
    have g1 := g0.kept k1
    refine ⟨_, rfl, b, 2, rfl, k1.bx, by decide, by decide, fun y H2 y0 y1 k2 => ?_⟩
    obtain ⟨y, rfl⟩ := int_of y0
    have g2 := g1.kept k2
    have d2 := d.go g2
    refine ⟨_, rfl, S, _, rfl, .inl (SqL.of d2.sl), _, _, rfl, rfl, (by show 3 ≤ sizeLine; decide), fun p1 hp1 => ?_⟩
    generalize hG : upd _ _ _ = H3
    obtain ⟨x3, w3⟩ := obj_of hp1 hG
    clear hG
    have g3 := g2.exd x3
    refine ⟨_, rfl, b, 3, rfl, g3.bx, by decide, by decide, fun m H4 m0 m1 k4 => ?_⟩
    have w4 := k4.getN w3 g2.bx hp1
    obtain ⟨v, hv, mem⟩ := at_mem (xs := [.int (x : Int), .int (y : Int), .int (((qs.map V.ref).length : Nat) - (1 : Int))]) m0 m1
    have al : ∃ i : Nat, i < sh.length ∧ v = .int (i : Int) := by
      rw [lq] at mem
      simp only [List.mem_cons, List.not_mem_nil, or_false] at mem
      rcases mem with rfl | rfl | rfl
      · exact ⟨x, by omega, rfl⟩
      · exact ⟨y, by omega, rfl⟩
      · exact ⟨sh.length - 1, by omega, congrArg V.int (by omega)⟩
    obtain ⟨i, il, rfl⟩ := al
    refine ⟨p1, _, _, _, rfl, rfl, SqL.of w4, hv, ?_⟩
    refine gset (by (simp only [List.set_cons_succ, List.set_cons_zero]); rfl) ?_
    have g4 := g3.kept k4
    refine ⟨_, rfl, b, rfl, g4.bx, fun t ns H5 k5 pg => ?_⟩
    refine gset (by (simp only [List.set_cons_succ, List.set_cons_zero]); rfl) ?_
    have g5 := g4.kept k5
    have d5 := d.go g5
    clear w4 w3 k4 k5 x3 d2 hv mem
    obtain ⟨u0, hu0, pu0⟩ := d5.pg.at il
    obtain ⟨q0, hq0, qn0⟩ := d5.sq.at il
    have ix : ixN (qs.map V.ref).length (i : Int) = some i := by rw [lq]; exact ixN_nat il
    obtain ⟨dx, dp, dl⟩ := d5.dk
    have wt := pg.td.sz.wt
    rcases k with ⟨rfl, k⟩ | ⟨u, pw, dw, M, n, rfl, hs, nb, k⟩
    · refine ⟨_, rfl, rfl, _, rfl, ?_⟩
      rw [decide_eq_true rfl]
      refine iteT ?_
      refine ⟨_, rfl, t, _, rfl, .inr (SqT.of pg.1), fun l hl => ?_⟩
      generalize hG : upd _ _ _ = H6
      obtain ⟨x6, w6⟩ := obj_of hl hG
      clear hG
      refine ⟨_, rfl, _, rfl, S, _, _, i, rfl, rfl, x6 _ _ d5.sl, ix, ?_⟩
      rw [map_set]
      have g6 := g5.exd x6
      have lS : l ≠ S := fun z => by rw [z, d5.sl] at hl; cases hl
      have uS : ∀ {a : Addr} {o : HO}, H6 a = some o → o ≠ .lst (qs.map V.ref) → upd H6 S (.lst ((qs.set i l).map V.ref)) a = some o := fun {a o} e n => by
        rw [upd_ne (fun z => by rw [z, x6 _ _ d5.sl] at e; cases e; exact n rfl)]
        exact e
      have g7 : Cg [ls, S] [t1, t2] b H (upd H6 S (.lst ((qs.set i l).map V.ref))) := g6.cg.put (by simp) (x6 _ _ d5.sl) (nb_refs _) (fun q z => by cases z)
      have w7S : upd H6 S (.lst ((qs.set i l).map V.ref)) S = some (.lst ((qs.set i l).map V.ref)) := upd_same
      have w7ls : upd H6 S (.lst ((qs.set i l).map V.ref)) ls = some (.lst (as.map V.ref)) := by rw [upd_ne d.ne.symm]; exact x6 _ _ dl
      have w7l : upd H6 S (.lst ((qs.set i l).map V.ref)) l = some (.lst (numV ns)) := by rw [upd_ne lS]; exact w6
      have w7t : PgF (upd H6 S (.lst ((qs.set i l).map V.ref))) ns t := ⟨uS (x6 _ _ pg.1) (fun z => by cases z), pg.2⟩
      have w7u : PgF (upd H6 S (.lst ((qs.set i l).map V.ref))) sh[i] u0 := ⟨uS (x6 _ _ pu0.1) (fun z => by cases z), pu0.2⟩
      have w7p : upd H6 S (.lst ((qs.set i l).map V.ref)) p = some (.ins D.cDisk dx [("_pages", .ref ls)]) := uS (x6 _ _ dp) (fun z => by cases z)
      have free7 : ∀ {a : Addr}, upd H6 S (.lst ((qs.set i l).map V.ref)) a = none → H a = none := fun {a} e => g7.free (fun x m => by
        simp only [List.mem_cons, List.not_mem_nil, or_false] at m
        rcases m with rfl | rfl
        · exact ⟨_, w7ls⟩
        · exact ⟨_, w7S⟩) e
      generalize upd H6 S (.lst ((qs.set i l).map V.ref)) = H7 at g7 w7S w7ls w7l w7t w7u w7p free7 ⊢
      clear uS
      refine ⟨_, rfl, _, rfl, _, rfl, fun r1 d1 hr1 hd1 ne1 => ?_⟩
      refine pow_new (l := none) g7.tab hr1 hd1 ne1 fun H8 x8 w8 => ⟨rfl, ?_⟩
      refine ⟨(by show 2 ≤ sizeLine; decide), fun p2 hp2 => ?_⟩
      generalize hG : upd _ _ _ = H9
      obtain ⟨x9, w9⟩ := obj_of hp2 hG
      clear hG
      have g9 := (g7.exd x8).exd x9
      refine ⟨_, rfl, b, 2, rfl, g9.bx, by decide, by decide, fun j H10 j0 j1 k10 => ?_⟩
      have w10 := k10.get g9.bx w9 rfl
      have g10 := g9.kept k10
      have to10 : ∀ {a : Addr} {o : HO}, H7 a = some o → noBox o = true → H10 a = some o := fun {a o} e nb => k10.get g9.bx (x9 _ _ (x8 _ _ e)) nb
      have nbn : noBox (.lst (numV ns)) = true := nb_len (by rw [numV_len, pg.2.1]; decide)
      have w10S := to10 w7S (nb_refs _)
      have w10ls := to10 w7ls (nb_refs _)
      have w10l := to10 w7l nbn
      have w10t : PgF H10 ns t := ⟨to10 w7t.1 rfl, w7t.2⟩
      have w10u : PgF H10 sh[i] u0 := ⟨to10 w7u.1 rfl, w7u.2⟩
      have w10p := to10 w7p rfl
      have w10r := k10.get g9.bx (x9 _ _ w8) rfl
      obtain ⟨v, hv, mem⟩ := at_mem (xs := [.non, .ref r1]) j0 j1
      refine ⟨p2, _, _, _, rfl, rfl, SqL.of w10, hv, ?_⟩
      simp only [List.mem_cons, List.not_mem_nil, or_false] at mem
      rcases mem with rfl | rfl
      · refine ⟨p, ls, as, i, u0, t, _, _, _, rfl, ⟨dx, w10p, w10ls⟩, g10.tab, hu0, w10u.twenty, w10t.page, w10t.twenty, .inl ⟨rfl, fun H11 c n11 tc => ?_⟩⟩
        obtain ⟨g12, d12⟩ := d.wrote d.far (by simp) (g10.nws n11) (n11.lst w10ls) (n11.lst w10S) (n11.lst w10l) (⟨tc.1, pg.2⟩ : PgF H11 ns c)
        exact ⟨rfl, k i ns _ _ _ wt g12 d12⟩
      · refine ⟨p, ls, as, i, u0, t, _, _, _, rfl, ⟨dx, w10p, w10ls⟩, g10.tab, hu0, w10u.twenty, w10t.page, w10t.twenty, .inr ⟨r1, d1, none, 0, rfl, w10r, by decide, fun Hm H11 H12 c v nm x11 tc x12 wr => ?_⟩⟩
        have gm := (g10.nws nm).fresh (u := .ins D.cPower d1 (powF (lessP none) (0 + give none))) (free7 hr1) (nm.get w10r (fun q z => by cases z)) (fun q z => by cases z)
        have um : ∀ {a : Addr} {o : HO}, H10 a = some o → (∀ q, o ≠ .tbl q) → (∀ C dx fs, o ≠ .ins C dx fs) → H11 a = some o := fun {a o} e nt ni => x11 _ _ (by
          rw [upd_ne (fun z => by rw [z, w10r] at e; cases e; exact ni _ _ _ rfl)]
          exact nm.get e nt)
        obtain ⟨g12, d12⟩ := d.wrote d.far (by simp) (gm.exd x11) (um w10ls (fun q z => by cases z) (fun _ _ _ z => by cases z)) (um w10S (fun q z => by cases z) (fun _ _ _ z => by cases z)) (um w10l (fun q z => by cases z) (fun _ _ _ z => by cases z)) (⟨by
          rw [tc.1]
          show some (HO.tup (List.take 20 (numV ns) ++ List.drop 20 _)) = _
          rw [List.take_of_length_le (by rw [numV_len, pg.2.1]; decide), List.drop_eq_nil_of_le (by rw [numV_len, pu0.2.1]; decide), List.append_nil], pg.2⟩ : PgF H11 ns c)
        rcases wr with ⟨_, rfl⟩ | ⟨e, _⟩
        · exact ⟨rfl, k i ns _ _ _ wt (g12.exd x12) (d12.exd x12)⟩
        · exact absurd rfl e
    · have hs5 : SupAt D.cPower H5 u pw dw M n := ⟨g5.get hs.1 rfl (fun q z => by cases z), g5.ins hs.2.1, hs.2.2⟩
      refine ⟨_, rfl, rfl, _, rfl, ?_⟩
      rw [decide_eq_false (fun z => by cases z)]
      refine iteF ?_
      refine ⟨_, rfl, u, _, _, _, rfl, rfl, SqL.of hs5.1, at1 _ _ _, ?_⟩
      obtain ⟨G, hG⟩ : ∃ G, G = give (M.map fun y => y - n) := ⟨_, rfl⟩
      have ml : powF (lessP (M.map fun y => y - n)) (n + G) = powF (M.map fun y => y - (n + G)) (n + G) := by
        rw [hG]
        cases M with
        | none => rfl
        | some m =>
          refine congrArg (fun y => powF (some y) _) ?_
          show (m - n) - min 20 (m - n) = m - (n + min 20 (m - n))
          omega
      refine ⟨rfl, _, rfl, ?_⟩
      rcases hM : M with _ | m
      case' none =>
        rw [show (!decide (lv none = V.non)) = false from rfl]
        refine iteF ?_
        have G20 : G = 20 := by rw [hG, hM]; rfl
        rw [show ([some (V.ref b), some (V.ref p), some (V.ref S), some (V.ref u), some (V.int (i : Int)), some (V.ref t), none, none] : L2.St).set 6 (some (V.int 20)) = [some (V.ref b), some (V.ref p), some (V.ref S), some (V.ref u), some (V.int (i : Int)), some (V.ref t), some (V.int (G : Int)), none] from by rw [G20]; rfl]
      case' some =>
        rw [show (!decide (lv (some m) = V.non)) = true from rfl]
        refine iteT ?_
        have le := hs.2.2 m hM
        have Gm : (if (m : Int) - (n : Int) < 20 then (m : Int) - (n : Int) else 20) = (G : Int) := by
          rw [hG, hM]
          show _ = ((min 20 (m - n) : Nat) : Int)
          split <;> omega
        refine ⟨_, rfl, u, _, _, .int (m : Int), rfl, rfl, SqL.of hs5.1, by rw [hM]; exact at1 _ _ _, _, rfl, u, _, _, _, rfl, rfl, SqL.of hs5.1, at2 _ _ _, _, _, rfl, rfl, _, _, rfl, ?_⟩
        refine gset (σ' := [some (V.ref b), some (V.ref p), some (V.ref S), some (V.ref u), some (V.int (i : Int)), some (V.ref t), some (V.int (G : Int)), none]) (by rw [← Gm]; rfl) ?_
      all_goals
        try dsimp only [tNext]
        dsimp only [tSeq, tAsg]
        refine half_sheet pg.1 (by rw [numV_len]; exact pg.2.1) d5.sl hq0 qn0 (by rw [numV_len]; exact pu0.2.1) (by rw [hG]; exact give_le _) fun l H6 x6 hl w6 => ?_
        refine ⟨_, rfl, _, rfl, S, _, _, i, rfl, rfl, x6 _ _ d5.sl, ix, ?_⟩
        have G20 : G ≤ 20 := by rw [hG]; exact give_le _
        have e20 : (numV ns).take G ++ (numV sh[i]).drop G = numV (ns.take G ++ (sh[i]).drop G) := by
          unfold numV
          rw [List.map_append, List.map_take, List.map_drop]
        rw [e20] at w6
        have nn20 : (ns.take G ++ (sh[i]).drop G).length = 20 := by
          rw [List.length_append, List.length_take, List.length_drop, pg.2.1, pu0.2.1]
          omega
        have nnlt : ∀ y ∈ ns.take G ++ (sh[i]).drop G, y < cB := fun y hy => by
          rcases List.mem_append.mp hy with hy | hy
          · exact pg.2.2 y (List.mem_of_mem_take hy)
          · exact pu0.2.2 y (List.mem_of_mem_drop hy)
        generalize ns.take G ++ (sh[i]).drop G = nn at w6 nn20 nnlt e20
        have wtn := (PgF.td (H := fun _ => some (.tup (numV nn))) (a := S) (ns := nn) ⟨rfl, nn20, nnlt⟩).sz.wt
        rw [map_set]
        have g6 := g5.exd x6
        have f0 : Far [u, pw, ls, S] H := .sup hs d.far
        have uS : ∀ {a : Addr} {o : HO}, H6 a = some o → o ≠ .lst (qs.map V.ref) → upd H6 S (.lst ((qs.set i l).map V.ref)) a = some o := fun {a o} e n => by
          rw [upd_ne (fun z => by rw [z, x6 _ _ d5.sl] at e; cases e; exact n rfl)]
          exact e
        have g7 : Cg [u, pw, ls, S] [t1, t2] b H (upd H6 S (.lst ((qs.set i l).map V.ref))) := g6.cg.put (by simp) (x6 _ _ d5.sl) (nb_refs _) (fun q z => by cases z)
        have w7S : upd H6 S (.lst ((qs.set i l).map V.ref)) S = some (.lst ((qs.set i l).map V.ref)) := upd_same
        have w7ls : upd H6 S (.lst ((qs.set i l).map V.ref)) ls = some (.lst (as.map V.ref)) := by rw [upd_ne d.ne.symm]; exact x6 _ _ dl
        have w7l := uS w6 (fun z => refs_nums nn20 z.symm)
        have w7t := uS (x6 _ _ pg.1) (fun z => by cases z)
        have w7u0 := uS (x6 _ _ pu0.1) (fun z => by cases z)
        have w7p := uS (x6 _ _ dp) (fun z => by cases z)
        have w7u := uS (x6 _ _ hs5.1) (sup_refs _)
        have w7pw := uS (x6 _ _ hs5.2.1) (fun z => by cases z)
        generalize upd H6 S (.lst ((qs.set i l).map V.ref)) = H7 at g7 w7S w7ls w7l w7t w7u0 w7p w7u w7pw ⊢
        clear uS
        refine ⟨_, rfl, u, _, _, _, rfl, rfl, SqL.of w7u, at2 _ _ _, _, rfl, _, _, rfl, rfl, _, rfl, u, _, _, 2, rfl, rfl, w7u, rfl, ?_⟩
        have hset : [V.ref pw, lv M, V.int (n : Int)].set 2 (V.int ((n : Int) + (G : Int))) = [V.ref pw, lv M, V.int ((n + G : Nat) : Int)] := rfl
        rw [hset]
        have uu : ∀ {a : Addr} {o : HO}, H7 a = some o → o ≠ .lst [.ref pw, lv M, .int (n : Int)] → upd H7 u (.lst [V.ref pw, lv M, V.int ((n + G : Nat) : Int)]) a = some o := fun {a o} e n => by
          rw [upd_ne (fun z => by rw [z, w7u] at e; cases e; exact n rfl)]
          exact e
        have g8 : Cg [u, pw, ls, S] [t1, t2] b H (upd H7 u (.lst [V.ref pw, lv M, V.int ((n + G : Nat) : Int)])) := g7.put (by simp) w7u rfl (fun q z => by cases z)
        have w8u : upd H7 u (.lst [V.ref pw, lv M, V.int ((n + G : Nat) : Int)]) u = some (.lst [V.ref pw, lv M, V.int ((n + G : Nat) : Int)]) := upd_same
        have w8S := uu w7S (sup_refs _).symm
        have w8ls := uu w7ls (sup_refs _).symm
        have w8l := uu w7l (sup_num nn20).symm
        have w8t := uu w7t (fun z => by cases z)
        have w8u0 := uu w7u0 (fun z => by cases z)
        have w8p := uu w7p (fun z => by cases z)
        have w8pw := uu w7pw (fun z => by cases z)
        generalize upd H7 u (.lst [V.ref pw, lv M, V.int ((n + G : Nat) : Int)]) = H8 at g8 w8S w8ls w8l w8t w8u0 w8p w8u w8pw ⊢
        clear uu w7S w7ls w7l w7t w7u0 w7p w7u w7pw
        have bi : BadD (.int ((n + G : Nat) : Int)) := bad_int (by have : (((n + G : Nat) : Int)).natAbs = n + G := rfl; omega)
        refine ⟨_, rfl, u, _, _, _, rfl, rfl, SqL.of w8u, at2 _ _ _, _, .int ((n + G : Nat) : Int), rfl, .int _, bi.io, bi.sz, (by show 3 ≤ sizeLine; decide), fun pd hpd => ?_⟩
        generalize hG : upd _ _ _ = H9
        obtain ⟨x9, w9⟩ := obj_of hpd hG
        clear hG
        refine gset (by (simp only [List.set_cons_succ, List.set_cons_zero]); rfl) ?_
        have g9 := g8.exd x9
        have ngl : n + give (M.map fun y => y - n) < 10 ^ 12 := by
          rw [← hG]
          omega
        have fin : ∀ (Hm H3 H4 : Hp) (c : Addr), Nws [t1, t2] H9 Hm → Exd (upd Hm pw (.ins D.cPower dw (powF (lessP (M.map fun y => y - n)) (n + give (M.map fun y => y - n))))) H3 → TwentyX H3 c ((numV ns).take (give (M.map fun y => y - n)) ++ (numV sh[i]).drop (give (M.map fun y => y - n))) → Exd (upd H3 ls (.lst ((as.set i c).map V.ref))) H4 →
            Cg [u, pw, ls, S] [t1, t2] b H H4 ∧ Dk D.cDisk p ls S (as.set i c) (qs.set i l) (sh.set i nn) H4 ∧ SupAt D.cPower H4 u pw dw M (n + G) ∧ H4 pd = some (.lst [V.str (PyData.shown (.int ((n + G : Nat) : Int))), V.bl false, V.bl true]) := by
          intro Hm H3 H4 c nm x3' tc x4'
          rw [← hG] at x3' tc
          rw [e20] at tc
          have wmp := nm.get (x9 _ _ w8pw) (fun q z => by cases z)
          have gm := (g9.nws nm).put (u := .ins D.cPower dw (powF (lessP (M.map fun y => y - n)) (n + G))) (by simp) wmp rfl (fun q z => by cases z)
          have um : ∀ {a : Addr} {o : HO}, H9 a = some o → (∀ q, o ≠ .tbl q) → (∀ C dx fs, o ≠ .ins C dx fs) → H3 a = some o := fun {a o} e nt ni => x3' _ _ (by
            rw [upd_ne (fun z => by rw [z, x9 _ _ w8pw] at e; cases e; exact ni _ _ _ rfl)]
            exact nm.get e nt)
          have w3pd := um w9 (fun q z => by cases z) (fun _ _ _ z => by cases z)
          have w3ls := um (x9 _ _ w8ls) (fun q z => by cases z) (fun _ _ _ z => by cases z)
          have w3u := um (x9 _ _ w8u) (fun q z => by cases z) (fun _ _ _ z => by cases z)
          have w3pw := x3' _ _ (upd_same (H := Hm) (a := pw) (o := .ins D.cPower dw (powF (lessP (M.map fun y => y - n)) (n + G))))
          obtain ⟨g12, d12⟩ := d.wrote f0 (by simp) (gm.exd x3') w3ls (um (x9 _ _ w8S) (fun q z => by cases z) (fun _ _ _ z => by cases z)) (um (x9 _ _ w8l) (fun q z => by cases z) (fun _ _ _ z => by cases z)) (⟨tc.1, nn20, nnlt⟩ : PgF H3 nn c)
          refine ⟨g12.exd x4', d12.exd x4', ⟨x4' _ _ (by rw [upd_ne (fun z => by rw [z, w3ls] at w3u; injection w3u with w3u; exact sup_refs as w3u.symm)]; exact w3u), x4' _ _ (by rw [upd_ne (fun z => by rw [z, w3ls] at w3pw; cases w3pw)]; rw [w3pw, ml]), fun y hy => ?_⟩, x4' _ _ (by rw [upd_ne (fun z => by rw [z, w3ls] at w3pd; injection w3pd with w3pd; injection w3pd with w3pd; cases as with | nil => cases w3pd | cons a as => cases w3pd)]; exact w3pd)⟩
          have := hs.2.2 y hy
          rw [hG, hy]
          show n + min 20 (y - n) ≤ y
          omega
        refine ⟨_, rfl, rfl, _, rfl, ?_⟩
        by_cases q20 : G = 20
        case' pos =>
          rw [dec_int, show ((G : Int) == 20) = true from beq_iff_eq.mpr (by omega)]
          refine iteT ?_
          refine gset (by (simp only [List.set_cons_succ, List.set_cons_zero]); rfl) ?_
        case' neg =>
          rw [dec_int, show ((G : Int) == 20) = false from beq_eq_false_iff_ne.mpr (by omega)]
          refine iteF ?_
          try dsimp only [tNext]
        all_goals
          have w9t : PgF H9 ns t := ⟨x9 _ _ w8t, pg.2⟩
          have w9u : PgF H9 sh[i] u0 := ⟨x9 _ _ w8u0, pu0.2⟩
          refine ⟨_, rfl, _, rfl, _, rfl, _, rfl, u, _, _, _, rfl, rfl, SqL.of (x9 _ _ w8u), at0 _ _ _, p, ls, as, i, u0, t, _, _, .ref pw, rfl, ⟨dx, x9 _ _ w8p, x9 _ _ w8ls⟩, g9.tab, hu0, w9u.twenty, w9t.page, w9t.twenty, .inr ⟨pw, dw, _, n, rfl, x9 _ _ w8pw, ngl, fun Hm H3 H4 c v nm x3' tc x4' wr => ?_⟩⟩
          obtain ⟨g12, d12, s12, wpd⟩ := fin Hm H3 H4 c nm x3' tc x4'
          rw [← hG] at x3'
          unfold WrTold at wr
          rw [← hG] at wr
          refine ⟨_, rfl, ?_⟩
          rcases wr with ⟨e, rfl⟩ | ⟨e, q, rfl, wq⟩
        all_goals
          have done : ∀ σ : L2.St, σ[3]? = some (some (.ref u)) → ∃ c, V.bl true = V.bl c ∧ if c = true then tCall (spRight D.cPower) [] E0 (tCons (tVar 3) tNil) σ H4 Q else Q (V.bl false) H4 := fun σ hσ => ⟨_, rfl, iteT ⟨_, hσ, u, pw, dw, M, n + G, rfl, s12, k i nn _ _ _ _ wtn (by omega) g12 d12 s12⟩⟩
        all_goals
          first
          | exact absurd q20 e
          | exact absurd e q20
          | exact ⟨_, _, .non, .non, rfl, rfl, done _ rfl⟩
          | skip
        refine ⟨_, _, .lst (SqL.of wq) (.cons (.str _) (.cons (.bl _) (.cons (.bl _) .nil))), .lst (SqL.of wpd) (.cons (.str _) (.cons (.bl _) (.cons (.bl _) .nil))), wr_shaped bi.ok, wr_shaped bi.ok, ?_⟩
        rw [wr_eqv]
        exact done _ rfl
end
end LL
namespace LL
open PySem PySem.Spec PyProof.Rows L2
abbrev sevenN : List Nat := List.replicate 20 7
theorem Nws.go {Ts : List Addr} {b : Addr} {H H1 H2 : Hp} (g : Go Ts b H H1) (n : Nws Ts H1 H2) : Go Ts b H H2 := g.nws n
theorem Go.fresh {Ts : List Addr} {b p : Addr} {u o : HO} {H H1 : Hp} (g : Go Ts b H H1) (hp : H p = none) (ho : H1 p = some o) (nt : ∀ q, o ≠ .tbl q) : Go Ts b H (upd H1 p u) := g.put hp ho nt
section
variable {P : Program} {w : World} {K : PySem.W.Frag} {mg : Str → Option Value} {base : Heap} {c1 c2 t1 t2 : Addr}
def spAgain (C t1 t2 : Addr) : Sp := fun vs H Q _ => ∃ (b p ls S : Addr) (as qs : List Addr) (sh : List (List Nat)), vs = [.ref b, .ref p, .ref S] ∧ Bx H b ∧ (∀ R ∈ [t1, t2], GxR.TabG H R) ∧ Dk C p ls S as qs sh H ∧ Wt sh 20 ∧ ∀ H', Go [t1, t2] b H H' → Q (.bl true) H'
theorem ok__law_again (D : Defs K mg) (T : Tx K mg) (hc1 : D.is_page.fd.code = .ref c1) (TB1 : GxR.TabB base mg c1 t1) (hc2 : D.are_pages.fd.code = .ref c2) (TB2 : GxR.TabB base mg c2 t2) : FnG P w K mg base 14 D._law_again.f D._law_again.fd ["_law_box_here", "_law_disk", "_law_sheets"] (spAgain D.cDisk t1 t2) := by
  have G_law_take := ok__law_take (P := P) (w := w) (base := base) D T
  have G_law_stands := ok__law_stands (P := P) (w := w) (base := base) (t1 := t1) (t2 := t2) D T
  have Gdisk_of := ok_disk_of (P := P) (w := w) (base := base) D T hc1 TB1 hc2 TB2
  have GDisk_pages := ok_Disk_pages (P := P) (w := w) (base := base) D T
  have GDisk_page_at := ok_Disk_page_at (P := P) (w := w) (base := base) (t1 := t1) (t2 := t2) D T
  have GDisk_write := ok_Disk_write (P := P) (w := w) (base := base) (t2 := t2) D T hc1 TB1
  have GPower___init__ := ok_Power___init__ (P := P) (w := w) (base := base) (t1 := t1) (t2 := t2) D T
  have GPower_left_over := ok_Power_left_over (P := P) (w := w) (base := base) D T
  refine fnG_of D._law_again.F scLagain (fun vs H Q E h => ?_) (fun cdv A outer s H vs Q E guard hr h => ?_)
  · obtain ⟨b, p, ls, S, as, qs, sh, rfl, _⟩ := h
    rfl
  · obtain ⟨b, p, ls, S, as, qs, sh, rfl, bx, tabs, d, wt, k⟩ := h
    refine ⟨_, (pss_cons (ps_set (i := 3) scLagain.nd rfl (Or.inl rfl) (pmeth0 D.Disk_pages GDisk_pages D.clDisk hr (by decide) (pv 1)))
        (pss_cons (ps_set (i := 4) scLagain.nd rfl (Or.inl rfl) (pcallGX D.disk_of Gdisk_of hr (by decide) (by rfl) (pa_cons (pe_ix ix_list (pe_lst (pa_cons (pv 3) (pa_cons (pe_callTy call_tuple_of (by rfl) T.b_tuple (by decide +kernel) (pa_cons (pv 3) pa_nil)) pa_nil))) (pcall D._law_take G_law_take hr (by decide) (by rfl) (pa_cons (pv 0) (pa_cons pe_int pa_nil))) (fun _ _ => rfl)) pa_nil)))
        (pss_cons (ps_asg pe_non (pg_sub (pv 3) pe_int set_list))
        (pss_cons (ps_if (pt_not (pt_val (pcallG D._law_stands G_law_stands guard hr (by decide) (by rfl) (pa_cons (pv 4) (pa_cons (pv 2) pa_nil))))) (pss_one (ps_ret pe_bl)) pss_nil)
        (pss_cons (ps_set (i := 5) scLagain.nd rfl (Or.inl rfl) (pmakeG D.mkPower D.Power___init__.b GPower___init__ hr (by decide) (by rfl) D.g_Power (pa_cons pe_int pa_nil)))
        (pss_cons (ps_expr (pmethG D.Disk_write.h D.Disk_write.b GDisk_write D.clDisk hr (by decide) (pv 4) (pa_cons pe_int (pa_cons (pe_op op_repT (pe_tup (pa_cons pe_int pa_nil)) pe_int) (pa_cons (pv 5) pa_nil)))))
        (pss_cons (ps_if (pt_cmpR op_ne (pmeth0 D.Power_left_over GPower_left_over D.clPower hr (by decide) (pv 5)) pe_int (nomark _)) (pss_one (ps_ret pe_bl)) pss_nil)
        (pss_one (ps_ret (pe_and (pcallG D._law_stands G_law_stands guard hr (by decide) (by rfl) (pa_cons (pv 1) (pa_cons (pv 2) pa_nil))) (pe_one (pe_cmpR (op_eqD hr.units) (pmethG D.Disk_page_at.h D.Disk_page_at.b GDisk_page_at D.clDisk hr (by decide) (pv 4) (pa_cons pe_int pa_nil)) (pe_op op_repT (pe_tup (pa_cons pe_int pa_nil)) pe_int) (nomark _))))))))))))), ?_⟩
    have hst : L2.start scLagain_N [V.ref b, V.ref p, V.ref S] = [some (.ref b), some (.ref p), some (.ref S), none, none, none] := rfl
    rw [hst]
    obtain ⟨dx, dp, dl⟩ := d.dk
    have g0 : Go [t1, t2] b H H := Go.refl bx tabs
    have la : as.length = sh.length := d.pg.1
    have l4 := d.l4
    have l5 := d.l5
    refine ⟨_, rfl, p, dx, _, rfl, dp, rfl, p, ls, as, rfl, d.dk, fun hn H1 x1 hhn w1 => ?_⟩
    refine gset (by (simp only [List.set_cons_succ, List.set_cons_zero]); rfl) ?_
    have g1 := g0.exd x1
    refine ⟨_, rfl, _, rfl, hn, _, rfl, .inl ⟨SqL.of w1, fun tq htq => ?_⟩⟩
    generalize hG : upd _ _ _ = H2
    obtain ⟨x2, w2⟩ := obj_of htq hG
    clear hG
    refine ⟨(by show 2 ≤ sizeLine; decide), fun p2 hp2 => ?_⟩
    generalize hG : upd _ _ _ = H3
    obtain ⟨x3, w3⟩ := obj_of hp2 hG
    clear hG
    have g3 := (g1.exd x2).exd x3
    refine ⟨_, rfl, b, 2, rfl, g3.bx, by decide, by decide, fun j H4 j0 j1 k4 => ?_⟩
    have w4 := k4.get g3.bx w3 rfl
    have g4 := g3.kept k4
    have hn4 := k4.get g3.bx ((x2.trans x3) _ _ w1) (nb_refs _)
    have tq4 := k4.get g3.bx (x3 _ _ w2) rfl
    obtain ⟨v, hv, mem⟩ := at_mem (xs := [.ref hn, .ref tq]) j0 j1
    obtain ⟨a, rfl, ha⟩ : ∃ a, v = .ref a ∧ (H4 a = some (.lst (as.map V.ref)) ∨ H4 a = some (.tup (as.map V.ref))) := by
      simp only [List.mem_cons, List.not_mem_nil, or_false] at mem
      rcases mem with rfl | rfl
      · exact ⟨_, rfl, .inl hn4⟩
      · exact ⟨_, rfl, .inr tq4⟩
    have d4 := d.go g4
    refine ⟨p2, _, _, _, rfl, rfl, SqL.of w4, hv, a, as, sh, rfl, g4.tab, ha, by omega, by omega, d4.pg, fun o lo cur H5 n5 ho hlo dk5 al5 => ?_⟩
    refine gset (by (simp only [List.set_cons_succ, List.set_cons_zero]); rfl) ?_
    have g5 := g4.nws n5
    have d5 := d.go g5
    have hn5 := n5.lst hn4
    have dO5 : Dk D.cDisk o lo S cur qs sh H5 := ⟨dk5, al5, d5.sl, d5.sq, d5.l4, d5.l5⟩
    have jx : ixN (as.map V.ref).length (0 : Int) = some 0 := ixN_nat (k := 0) (by rw [List.length_map]; omega)
    refine ⟨_, rfl, hn, _, _, 0, rfl, rfl, hn5, jx, ?_⟩
    have nlo : lo ≠ hn := fun z => by rw [z, hn4] at hlo; cases hlo
    have nS : S ≠ hn := fun z => by have := d.sl; rw [z, hhn] at this; cases this
    have c6 : Cg [hn] [t1, t2] b H5 (upd H5 hn (.lst ((as.map V.ref).set 0 .non))) := (Cg.refl g5.bx g5.tab).put (by simp) hn5 (nb_refs _) (fun q z => by cases z)
    have g6 : Go [t1, t2] b H (upd H5 hn (.lst ((as.map V.ref).set 0 .non))) := g5.put hhn hn5 (fun q z => by cases z)
    have dO6 := dO5.cg c6 (Far.refs hn5 .nil) (by simpa using nlo) (by simpa using nS)
    generalize upd H5 hn (.lst ((as.map V.ref).set 0 .non)) = H6 at c6 g6 dO6 ⊢
    refine ⟨_, rfl, _, rfl, o, lo, S, cur, qs, sh, rfl, dO6, wt, g6.tab, fun H7 x7 => ?_⟩
    refine ⟨_, rfl, iteF ?_⟩
    have g7 := g6.exd x7
    have dO7 := dO6.exd x7
    refine fun r1 d1 hr1 hd1 ne1 => ?_
    refine pow_new (l := some 47) g7.tab hr1 hd1 ne1 fun H8 x8 w8 => ⟨rfl, ?_⟩
    refine gset (by (simp only [List.set_cons_succ, List.set_cons_zero]); rfl) ?_
    have g8 := g7.exd x8
    have dO8 := dO7.exd x8
    obtain ⟨ox, op, ol⟩ := dO8.dk
    refine ⟨_, rfl, o, ox, _, rfl, op, rfl, ?_⟩
    refine ⟨(by show 1 ≤ sizeLine; decide), fun q hq => ?_⟩
    try dsimp only [tC]
    refine rep_t hq (by decide) (by decide) fun t7 H9 x9 w9 => ?_
    have g9 := g8.exd x9
    have dO9 := dO8.exd x9
    have w9r := x9 _ _ w8
    have lt7 : ∀ n ∈ sevenN, n < cB := fun n hn => by rw [(List.mem_replicate.mp hn).2]; exact lit_lt (by decide)
    have p7 : PgF H9 sevenN t7 := ⟨w9, rfl, lt7⟩
    have l0 : 0 < sh.length := by omega
    obtain ⟨u0, hu0, pu0⟩ := dO9.pg.at l0
    have hr0 : H r1 = none := g7.free hr1
    have hlo0 : H lo = none := g4.free hlo
    obtain ⟨ox9, op9, ol9⟩ := dO9.dk
    refine ⟨_, rfl, o, lo, cur, 0, u0, t7, _, _, .ref r1, rfl, dO9.dk, g9.tab, hu0, pu0.twenty, p7.page, p7.twenty, .inr ⟨r1, d1, some 47, 0, rfl, w9r, fun Hm H10 c nm x10 tc => ⟨fun _ => ?_, fun e => absurd rfl e⟩⟩⟩
    have wmr := nm.get w9r (fun q z => by cases z)
    have gm := (g9.nws nm).put (u := .ins D.cPower d1 (powF (lessP (some 47)) (0 + give (some 47)))) hr0 wmr (fun q z => by cases z)
    have g10 := gm.exd x10
    have w10r := x10 _ _ (upd_same (H := Hm) (a := r1) (o := .ins D.cPower d1 (powF (lessP (some 47)) (0 + give (some 47)))))
    have w10l : H10 lo = some (.lst (cur.map V.ref)) := x10 _ _ (by
      rw [upd_ne (fun z => by have := nm.lst ol9; rw [z, wmr] at this; cases this)]
      exact nm.lst ol9)
    have no1 : o ≠ r1 := fun z => by
      have := nm.get op9 (fun q z => by cases z)
      rw [z, wmr] at this
      injection this with this
      injection this with _ _ this
      cases this
    have w10o : H10 o = some (.ins D.cDisk ox9 [("_pages", .ref lo)]) := x10 _ _ (by rw [upd_ne no1]; exact nm.get op9 (fun q z => by cases z))
    have g11 := g10.put (u := .lst ((cur.set 0 c).map V.ref)) hlo0 w10l (fun q z => by cases z)
    have w11r : upd H10 lo (.lst ((cur.set 0 c).map V.ref)) r1 = some (.ins D.cPower d1 (powF (some 27) 20)) := by
      rw [upd_ne (fun z => by rw [z, w10l] at w10r; cases w10r)]
      exact w10r
    have w11l : upd H10 lo (.lst ((cur.set 0 c).map V.ref)) lo = some (.lst ((cur.set 0 c).map V.ref)) := upd_same
    have w11o : upd H10 lo (.lst ((cur.set 0 c).map V.ref)) o = some (.ins D.cDisk ox9 [("_pages", .ref lo)]) := by
      rw [upd_ne (fun z => by rw [z, w10l] at w10o; cases w10o)]
      exact w10o
    have w11c : upd H10 lo (.lst ((cur.set 0 c).map V.ref)) c = some (.tup (numV sevenN)) := by
      rw [upd_ne (fun z => by have := tc.1; rw [z, w10l] at this; cases this)]
      rw [tc.1]
      show some (HO.tup (List.take 20 (numV sevenN) ++ List.drop 20 _)) = _
      rw [List.drop_eq_nil_of_le (by rw [numV_len, pu0.2.1]; decide), List.append_nil]
      rfl
    generalize upd H10 lo (.lst ((cur.set 0 c).map V.ref)) = H11 at g11 w11r w11l w11o w11c ⊢
    refine ⟨_, rfl, r1, d1, _, rfl, w11r, rfl, r1, some 27, 20, rfl, ⟨d1, w11r⟩, rfl, ?_⟩
    rw [show decide (lv (some 27) = V.int 27) = true from decide_eq_true rfl]
    refine ⟨_, rfl, iteF ?_⟩
    refine ⟨_, rfl, _, rfl, p, ls, S, as, qs, sh, rfl, d.go g11, wt, g11.tab, fun H12 x12 => ?_⟩
    refine ⟨_, rfl, iteT ?_⟩
    have g12 := g11.exd x12
    have hc : (cur.set 0 c)[0]? = some c := by
      have := (List.getElem?_eq_some_iff.mp hu0).1
      rw [List.getElem?_set, if_pos rfl, if_pos this]
    refine ⟨_, rfl, o, ox9, _, rfl, x12 _ _ w11o, rfl, o, lo, cur.set 0 c, _, rfl, ⟨ox9, x12 _ _ w11o, x12 _ _ w11l⟩, g12.tab, .inl ⟨0, c, rfl, hc, ?_⟩⟩
    refine ⟨(by show 1 ≤ sizeLine; decide), fun q2 hq2 => ?_⟩
    try dsimp only [tC]
    refine rep_t hq2 (by decide) (by decide) fun t8 H13 x13 w13 => ?_
    have w13 : H13 t8 = some (.tup (numV sevenN)) := w13
    refine ⟨tupDat sevenN, tupDat sevenN, .tup (SqT.of ((x12.trans x13) _ _ w11c)) (nat_dpA _), .tup (SqT.of w13) (nat_dpA _), tup_shaped _, tup_shaped _, ?_⟩
    rw [tupDat_eqv]
    exact k _ (g12.exd x13)
end
end LL
namespace LL
open PySem PySem.Spec PyProof.Rows L2
theorem disk_new {K : PySem.W.Frag} {C N : Addr} {Ts : List Addr} {H : Hp} {Q : VK} {E : XK} {m : Nat} {p dp : Addr} (tabs : ∀ R ∈ Ts, GxR.TabG H R) (m4 : 4 ≤ m) (m5 : m ≤ 512) (hp : H p = none) (hdp : H dp = none) (ne : dp ≠ p)
    (k : ∀ ls as H', Nws Ts H H' → H ls = none → DiskAt C H' p ls as → Ali (fun u ns => PgF H' ns u) as (List.replicate m blankN) → Q .non H') :
    spDiskI K C N Ts (.ref p :: ([.int (m : Int)] ++ [])) (upd (upd H dp (.own p)) p (.ins C dp [])) Q E := by
  have xa : Exd H (upd (upd H dp (.own p)) p (.ins C dp [])) := ((Exd.refl H).new hdp).new (by rw [upd_ne ne.symm]; exact hp)
  have na := (Nws.refl tabs).xd xa
  refine ⟨p, dp, _, rfl, upd_same, na.tab, .inl ⟨m, rfl, m4, m5, fun ls B H2 x2 hls w2 wB => ?_⟩⟩
  have wp := x2 _ _ (upd_same (H := upd H dp (.own p)) (a := p) (o := .ins C dp []))
  have lsp : ls ≠ p := fun z => by rw [z, wp] at w2; cases w2
  have Bp : B ≠ p := fun z => by rw [z, wp] at wB; cases wB
  refine k ls _ _ ((na.xd x2).put hp wp (fun q z => by cases z)) (xa.free hls) ⟨dp, upd_same, by rw [upd_ne lsp]; exact w2⟩ (Ali.rep ⟨by rw [upd_ne Bp]; exact wB, rfl, fun n hn => by rw [(List.mem_replicate.mp hn).2]; exact lit_lt (by decide)⟩ m)
/-- Xs: the lists of a disk, or what is no list of things -/
def Near (Xs : List Addr) (H : Hp) (ls S : Addr) : Prop := ∀ x ∈ Xs, x = ls ∨ x = S ∨ ∃ o, H x = some o ∧ ∀ as : List Addr, o ≠ .lst (as.map V.ref)
theorem near_two {H : Hp} {ls S : Addr} : Near [ls, S] H ls S := fun x m => by
  simp only [List.mem_cons, List.not_mem_nil, or_false] at m
  rcases m with rfl | rfl
  · exact .inl rfl
  · exact .inr (.inl rfl)
theorem near_sup {C u pw dw : Addr} {M : Option Nat} {s : Nat} {H : Hp} {ls S : Addr} (h : SupAt C H u pw dw M s) : Near [u, pw, ls, S] H ls S := fun x m => by
  simp only [List.mem_cons, List.not_mem_nil, or_false] at m
  rcases m with rfl | rfl | rfl | rfl
  · exact .inr (.inr ⟨_, h.1, sup_refs⟩)
  · exact .inr (.inr ⟨_, h.2.1, fun _ z => by cases z⟩)
  · exact .inl rfl
  · exact .inr (.inl rfl)
/-- a disk's list isn't another disk's sheets -/
theorem Dk.cross {C p ls S p2 ls2 S2 : Addr} {as qs as2 qs2 : List Addr} {sh sh2 : List (List Nat)} {H : Hp} (d : Dk C p ls S as qs sh H) (e : Dk C p2 ls2 S2 as2 qs2 sh2 H) : S2 ≠ ls := fun z => by
  obtain ⟨dx, _, el⟩ := d.dk
  have l : 0 < sh.length := by have := d.l4; omega
  have l2 : 0 < sh2.length := by have := e.l4; omega
  obtain ⟨u, hu, pu⟩ := d.pg.at l
  obtain ⟨q, hq, qn⟩ := e.sq.at l2
  have s := e.sl
  rw [z, el] at s
  injection s with s
  injection s with s
  have h1 : (as.map V.ref)[0]? = some (.ref u) := by rw [List.getElem?_map, hu]; rfl
  have h2 : (qs2.map V.ref)[0]? = some (.ref q) := by rw [List.getElem?_map, hq]; rfl
  rw [s, h2] at h1
  injection h1 with h1
  injection h1 with h1
  rw [h1, pu.1] at qn
  cases qn
theorem Dk.other {Xs Ts : List Addr} {b C p ls S p2 ls2 S2 : Addr} {as qs as2 qs2 : List Addr} {sh sh2 : List (List Nat)} {H H' : Hp} (d : Dk C p ls S as qs sh H) (e : Dk C p2 ls2 S2 as2 qs2 sh2 H) (g : Cg Xs Ts b H H') (f : Far Xs H) (nr : Near Xs H ls S) (n1 : ls2 ≠ ls) (n2 : S2 ≠ S) : Dk C p2 ls2 S2 as2 qs2 sh2 H' := by
  obtain ⟨dx, _, el⟩ := e.dk
  refine e.cg g f (fun m => ?_) (fun m => ?_)
  · rcases nr _ m with z | z | ⟨o, h, no⟩
    · exact n1 z
    · exact e.cross d z.symm
    · rw [el] at h
      injection h with h
      exact no _ h.symm
  · rcases nr _ m with z | z | ⟨o, h, no⟩
    · exact d.cross e z
    · exact n2 z
    · rw [e.sl] at h
      injection h with h
      exact no _ h.symm
theorem Cg.two {Xs Ts : List Addr} {b C p ls S L x y : Addr} {as qs : List Addr} {sh : List (List Nat)} {H H' : Hp} (d : Dk C p ls S as qs sh H) (g : Cg Xs Ts b H H') (nr : Near Xs H ls S) (h : H L = some (.lst [.ref x, .ref y])) : H' L = some (.lst [.ref x, .ref y]) := by
  have long : ∀ zs : List Addr, zs.length = sh.length → HO.lst [.ref x, .ref y] ≠ .lst (zs.map V.ref) := fun zs l z => by
    injection z with z
    have := congrArg List.length z
    have l4 := d.l4
    rw [List.length_map, l] at this
    simp only [List.length_cons, List.length_nil] at this
    omega
  refine g.get (fun m => ?_) h rfl (fun q z => by cases z)
  obtain ⟨dx, _, dl⟩ := d.dk
  rcases nr _ m with z | z | ⟨o, ho, no⟩
  · rw [z, dl] at h
    injection h with h
    exact long as d.pg.1 h.symm
  · rw [z, d.sl] at h
    injection h with h
    exact long qs d.sq.1 h.symm
  · rw [h] at ho
    injection ho with ho
    exact no [x, y] ho.symm
theorem Go.cgs {Xs Ts : List Addr} {b : Addr} {H H1 H2 : Hp} (g : Go Ts b H H1) (h : Cg Xs Ts b H1 H2) (n : ∀ x ∈ Xs, H x = none) : Go Ts b H H2 :=
  ⟨fun a o t m e => h.old a o (fun z => by rw [n a z] at e; cases e) t m (g.old a o t m e), g.bx0, h.bx, g.tab0, h.tab⟩
/-- both disks with their sheets, behind i writings -/
structure Cs (C t1 t2 b Ld Ls p1 ls1 S1 p2 ls2 S2 : Addr) (i : Nat) (H0 H : Hp) : Prop where
  go : Go [t1, t2] b H0 H
  ld : H Ld = some (.lst [.ref p1, .ref p2])
  ls : H Ls = some (.lst [.ref S1, .ref S2])
  d1 : ∃ as qs sh, Dk C p1 ls1 S1 as qs sh H ∧ Wt sh i
  d2 : ∃ as qs sh, Dk C p2 ls2 S2 as qs sh H ∧ Wt sh i
def SupV (CP : Addr) (z : V) (i : Nat) (H0 H : Hp) : Prop := z = .non ∨ ∃ u pw dw M s, z = .ref u ∧ SupAt CP H u pw dw M s ∧ s ≤ 20 * i ∧ H0 u = none ∧ H0 pw = none
section
variable {C CP t1 t2 b Ld Ls p1 ls1 S1 p2 ls2 S2 : Addr} {i : Nat} {H0 H H' : Hp} {z : V}
theorem Cs.to (c : Cs C t1 t2 b Ld Ls p1 ls1 S1 p2 ls2 S2 i H0 H) (g : Go [t1, t2] b H H') : Cs C t1 t2 b Ld Ls p1 ls1 S1 p2 ls2 S2 i H0 H' := by
  obtain ⟨as, qs, sh, d1, w1⟩ := c.d1
  obtain ⟨as2, qs2, sh2, d2, w2⟩ := c.d2
  exact ⟨c.go.trans g, g.get c.ld rfl (fun q z => by cases z), g.get c.ls rfl (fun q z => by cases z), ⟨_, _, _, d1.go g, w1⟩, ⟨_, _, _, d2.go g, w2⟩⟩
theorem Cs.kept (c : Cs C t1 t2 b Ld Ls p1 ls1 S1 p2 ls2 S2 i H0 H) (k : Kept b H H') : Cs C t1 t2 b Ld Ls p1 ls1 S1 p2 ls2 S2 i H0 H' := c.to ((Go.refl c.go.bx c.go.tab).kept k)
theorem Cs.exd (c : Cs C t1 t2 b Ld Ls p1 ls1 S1 p2 ls2 S2 i H0 H) (k : Exd H H') : Cs C t1 t2 b Ld Ls p1 ls1 S1 p2 ls2 S2 i H0 H' := c.to ((Go.refl c.go.bx c.go.tab).exd k)
theorem Cs.step1 (c : Cs C t1 t2 b Ld Ls p1 ls1 S1 p2 ls2 S2 i H0 H) {Xs as qs as' qs' : List Addr} {sh : List (List Nat)} {j : Nat} {ns : List Nat} (d : Dk C p1 ls1 S1 as qs sh H) (w : Wt sh i) (n1 : ls2 ≠ ls1) (n2 : S2 ≠ S1) (fr : ∀ x ∈ Xs, H0 x = none) (f : Far Xs H) (nr : Near Xs H ls1 S1)
    (g : Cg Xs [t1, t2] b H H') (wn : (tupDat ns).weight ≤ 820) (e : Dk C p1 ls1 S1 as' qs' (sh.set j ns) H') : Cs C t1 t2 b Ld Ls p1 ls1 S1 p2 ls2 S2 (i + 1) H0 H' := by
  obtain ⟨as2, qs2, sh2, d2, w2⟩ := c.d2
  exact ⟨c.go.cgs g fr, g.two d nr c.ld, g.two d nr c.ls, ⟨_, _, _, e, w.set wn⟩, ⟨_, _, _, d.other d2 g f nr n1 n2, w2.mono (Nat.le_succ _)⟩⟩
theorem Cs.step2 (c : Cs C t1 t2 b Ld Ls p1 ls1 S1 p2 ls2 S2 i H0 H) {Xs as qs as' qs' : List Addr} {sh : List (List Nat)} {j : Nat} {ns : List Nat} (d : Dk C p2 ls2 S2 as qs sh H) (w : Wt sh i) (n1 : ls2 ≠ ls1) (n2 : S2 ≠ S1) (fr : ∀ x ∈ Xs, H0 x = none) (f : Far Xs H) (nr : Near Xs H ls2 S2)
    (g : Cg Xs [t1, t2] b H H') (wn : (tupDat ns).weight ≤ 820) (e : Dk C p2 ls2 S2 as' qs' (sh.set j ns) H') : Cs C t1 t2 b Ld Ls p1 ls1 S1 p2 ls2 S2 (i + 1) H0 H' := by
  obtain ⟨as2, qs2, sh2, d2, w2⟩ := c.d1
  exact ⟨c.go.cgs g fr, g.two d nr c.ld, g.two d nr c.ls, ⟨_, _, _, d.other d2 g f nr n1.symm n2.symm, w2.mono (Nat.le_succ _)⟩, ⟨_, _, _, e, w.set wn⟩⟩
theorem SupV.to (h : SupV CP z i H0 H) (g : Go [t1, t2] b H H') : SupV CP z i H0 H' := by
  rcases h with h | ⟨u, pw, dw, M, s, e, h, r⟩
  · exact .inl h
  · exact .inr ⟨u, pw, dw, M, s, e, ⟨g.get h.1 rfl (fun q z => by cases z), g.ins h.2.1, h.2.2⟩, r⟩
end
end LL
namespace LL
open PySem PySem.Spec PyProof.Rows L2
theorem cut2 {A : Prop} {Pre G : V → Hp → Prop} (use : (∀ z H, Pre z H → G z H) → A) (tail : ∀ z H, Pre z H → G z H) : A := use tail
theorem cut3 {A : Prop} {Pre G : V → Int → Hp → Prop} (use : (∀ z i H, Pre z i H → G z i H) → A) (tail : ∀ z i H, Pre z i H → G z i H) : A := use tail
section
variable {P : Program} {w : World} {K : PySem.W.Frag} {mg : Str → Option Value} {base : Heap} {c1 c2 t1 t2 : Addr}
def spCase (t1 t2 : Addr) : Sp := fun vs H Q _ => ∃ (b : Addr), vs = [.ref b] ∧ Bx H b ∧ (∀ R ∈ [t1, t2], GxR.TabG H R) ∧ ∀ H', Go [t1, t2] b H H' → Q (.bl true) H'
theorem ok__law_case (D : Defs K mg) (T : Tx K mg) (hc1 : D.is_page.fd.code = .ref c1) (TB1 : GxR.TabB base mg c1 t1) (hc2 : D.are_pages.fd.code = .ref c2) (TB2 : GxR.TabB base mg c2 t2) : FnG P w K mg base 15 D._law_case.f D._law_case.fd ["_law_box_here"] (spCase t1 t2) := by
  have G_law_take := ok__law_take (P := P) (w := w) (base := base) D T
  have G_law_many := ok__law_many (P := P) (w := w) (base := base) D T
  have G_law_power := ok__law_power (P := P) (w := w) (base := base) (t1 := t1) (t2 := t2) D T
  have G_law_power_right := ok__law_power_right (P := P) (w := w) (base := base) D T
  have G_law_stands := ok__law_stands (P := P) (w := w) (base := base) (t1 := t1) (t2 := t2) D T
  have G_law_step := ok__law_step (P := P) (w := w) (base := base) (t2 := t2) D T hc1 TB1
  have G_law_again := ok__law_again (P := P) (w := w) (base := base) D T hc1 TB1 hc2 TB2
  have GDisk___init__ := ok_Disk___init__ (P := P) (w := w) (base := base) (t1 := t1) (t2 := t2) D T
  have GDisk_how_many := ok_Disk_how_many (P := P) (w := w) (base := base) D T
  refine fnG_of D._law_case.F scLcase (fun vs H Q E h => ?_) (fun cdv A outer s H vs Q E guard hr h => ?_)
  · obtain ⟨b, rfl, _⟩ := h
    rfl
  · obtain ⟨b, rfl, bx, tabs, k⟩ := h
    refine ⟨_, (pss_cons (ps_set (i := 1) scLcase.nd rfl (Or.inl rfl) (pe_ix ix_list (pe_lst (pa_cons (pe_op op_add pe_int (pcall D._law_take G_law_take hr (by decide) (by rfl) (pa_cons (pv 0) (pa_cons pe_int pa_nil)))) (pa_cons (pcall D._law_many G_law_many hr (by decide) (by rfl) (pa_cons (pv 0) pa_nil)) pa_nil))) (pe_callTy call_int1 (by rfl) T.b_int (by decide +kernel) (pa_cons (pe_cmpR op_eq (pcall D._law_take G_law_take hr (by decide) (by rfl) (pa_cons (pv 0) (pa_cons pe_int pa_nil))) pe_int (nomark _)) pa_nil)) (fun _ _ => rfl)))
        (pss_cons (ps_set (i := 2) scLcase.nd rfl (Or.inl rfl) (pe_lst (pa_cons (pmakeG D.mkDisk D.Disk___init__.b GDisk___init__ hr (by decide) (by rfl) D.g_Disk (pa_cons (pv 1) pa_nil)) (pa_cons (pmakeG D.mkDisk D.Disk___init__.b GDisk___init__ hr (by decide) (by rfl) D.g_Disk (pa_cons (pe_op op_add pe_int (pcall D._law_take G_law_take hr (by decide) (by rfl) (pa_cons (pv 0) (pa_cons pe_int pa_nil)))) pa_nil)) pa_nil))))
        (pss_cons (ps_setLc (i := 3) (own := [("_law_disk", 4)]) (g := gName 4) (tt := tYes) rfl scLcase.nd rfl rfl (sw_true rfl rfl rfl (by decide +kernel)) (pi_list (pv 2)) (blkOk_by (N := scLcase_N) (sc := defScope scLcase_st) (by decide +kernel)) (fun _ _ _ _ _ => (pg_name (i := 4) scLcase.nd rfl (Or.inl rfl))) (fun _ _ _ _ _ => pts_nil) (fun _ _ _ _ _ => (pe_lc (own := [("_law_k", 5)]) (g := gName 5) (tt := tYes) rfl scLcase.nd (pi_range1 rfl T.b_range (pa_cons (pmeth0 D.Disk_how_many GDisk_how_many D.clDisk hr (by decide) (pv 4)) pa_nil)) (by show BlkOk scLcase_N { kind := .function, names := [(".0", .local), ("_law_disk", .local), ("range", .globalImplicit)], isGenerator := false, isCoroutine := false } _ _; exact blkOk_by (by decide +kernel)) (fun _ _ _ _ _ => (pg_name (i := 5) scLcase.nd rfl (Or.inl rfl))) (fun _ _ _ _ _ => pts_nil) (fun _ _ _ _ _ => (pe_op op_rep (pe_lst (pa_cons pe_int pa_nil)) pe_int)))))
        (pss_cons (ps_set (i := 6) scLcase.nd rfl (Or.inl rfl) pe_non)
        (pss_cons (ps_for PassesOwn.never rfl (pi_range1 rfl T.b_range (pa_cons (pcall D._law_take G_law_take hr (by decide) (by rfl) (pa_cons (pv 0) (pa_cons pe_int pa_nil))) pa_nil)) (pg_name (i := 5) scLcase.nd rfl (Or.inl rfl)) (pss_cons (ps_if (pt_cmpR op_eq (pcall D._law_take G_law_take hr (by decide) (by rfl) (pa_cons (pv 0) (pa_cons pe_int pa_nil))) pe_int (nomark _)) (pss_one (ps_set (i := 6) scLcase.nd rfl (Or.inl rfl) (pe_ix ix_list (pe_lst (pa_cons pe_non (pa_cons (pcall D._law_power G_law_power hr (by decide) (by rfl) (pa_cons (pv 0) pa_nil)) pa_nil))) (pe_op op_mod (pcall D._law_take G_law_take hr (by decide) (by rfl) (pa_cons (pv 0) (pa_cons pe_int pa_nil))) pe_int) (fun _ _ => rfl)))) pss_nil)
        (pss_cons (ps_set (i := 7) scLcase.nd rfl (Or.inl rfl) (pe_callTy call_int1 (by rfl) T.b_int (by decide +kernel) (pa_cons (pe_cmpR op_eq (pcall D._law_take G_law_take hr (by decide) (by rfl) (pa_cons (pv 0) (pa_cons pe_int pa_nil))) pe_int (nomark _)) pa_nil)))
        (pss_cons (ps_if (PW.pt (pw_and (pt_cmpR op_notN (pv 6) pe_non (nomark _)) (pw_and1 (pt_not (pt_val (pcall D._law_power_right G_law_power_right hr (by decide) (by rfl) (pa_cons (pv 6) pa_nil))))))) (pss_one (ps_ret pe_bl)) pss_nil)
        (pss_cons (ps_if (pt_not (pt_val (pcallG D._law_step G_law_step guard hr (by decide) (by rfl) (pa_cons (pv 0) (pa_cons (pe_ix ix_list (pv 2) (pv 7) (fun _ _ => rfl)) (pa_cons (pe_ix ix_list (pv 3) (pv 7) (fun _ _ => rfl)) (pa_cons (pv 6) pa_nil))))))) (pss_one (ps_ret pe_bl)) pss_nil)
        (pss_one (ps_if (PW.pt (pw_or (pt_not (pt_val (pcallG D._law_stands G_law_stands guard hr (by decide) (by rfl) (pa_cons (pe_ix ix_list (pv 2) pe_int (fun _ _ => rfl)) (pa_cons (pe_ix ix_list (pv 3) pe_int (fun _ _ => rfl)) pa_nil))))) (pw_or1 (pt_not (pt_val (pcallG D._law_stands G_law_stands guard hr (by decide) (by rfl) (pa_cons (pe_ix ix_list (pv 2) pe_int (fun _ _ => rfl)) (pa_cons (pe_ix ix_list (pv 3) pe_int (fun _ _ => rfl)) pa_nil)))))))) (pss_one (ps_ret pe_bl)) pss_nil)))))))
        (pss_one (ps_ret (pe_and (pcallG D._law_again G_law_again guard hr (by decide) (by rfl) (pa_cons (pv 0) (pa_cons (pe_ix ix_list (pv 2) pe_int (fun _ _ => rfl)) (pa_cons (pe_ix ix_list (pv 3) pe_int (fun _ _ => rfl)) pa_nil)))) (pe_one (pcallG D._law_stands G_law_stands guard hr (by decide) (by rfl) (pa_cons (pe_ix ix_list (pv 2) pe_int (fun _ _ => rfl)) (pa_cons (pe_ix ix_list (pv 3) pe_int (fun _ _ => rfl)) pa_nil)))))))))))), ?_⟩
    have hst : L2.start scLcase_N [V.ref b] = [some (.ref b), none, none, none, none, none, none, none] := rfl
    rw [hst]
    have g0 : Go [t1, t2] b H H := Go.refl bx tabs
    refine ⟨_, rfl, b, 37, rfl, bx, by decide, by decide, fun x H1 x0 x1 k1 => ?_⟩
    obtain ⟨x, rfl⟩ := int_of x0
    refine ⟨_, _, rfl, rfl, _, rfl, b, rfl, k1.bx, fun m H2 m4 m5 k2 => ?_⟩
    refine ⟨(by show 2 ≤ sizeLine; decide), fun p1 hp1 => ?_⟩
    generalize hG : upd _ _ _ = H3
    obtain ⟨x3, w3⟩ := obj_of hp1 hG
    clear hG
    have g3 := ((g0.kept k1).kept k2).exd x3
    refine ⟨_, rfl, b, 8, rfl, g3.bx, by decide, by decide, fun y H4 y0 y1 k4 => ?_⟩
    have w4 := k4.get g3.bx w3 rfl
    have g4 := g3.kept k4
    have cv : ∀ kk : Bool, ∃ v : V, atI [V.int (4 + (x : Int)), V.int (m : Int)] (if kk = true then 1 else 0) = some v ∧ ∃ mm : Nat, v = .int (mm : Int) ∧ 4 ≤ mm ∧ mm ≤ 512 := fun kk => by
      cases kk with
      | true => exact ⟨.int (m : Int), atI_nat (j := 1) rfl, m, rfl, m4, m5⟩
      | false => exact ⟨.int (4 + (x : Int)), atI_nat (j := 0) rfl, 4 + x, congrArg V.int (by omega), by omega, by omega⟩
    obtain ⟨v, hv, mm, rfl, h4, h5⟩ := cv (decide (V.int y = V.int 0))
    refine ⟨rfl, .inr ⟨_, rfl, p1, _, _, _, rfl, rfl, SqL.of w4, hv, ?_⟩⟩
    refine gset (by (simp only [List.set_cons_succ, List.set_cons_zero]); rfl) ?_
    clear w4 w3 x3 k4
    refine ⟨_, rfl, fun p1 e1 hp1 he1 ne1 => ?_⟩
    refine disk_new g4.tab h4 h5 hp1 he1 ne1 fun ls1 as1 H5 n5 hls1 dk1 al1 => ⟨rfl, ?_⟩
    have g5 := g4.nws n5
    refine ⟨_, rfl, b, 5, rfl, g5.bx, by decide, by decide, fun z H6 z0 z1 k6 => ?_⟩
    obtain ⟨z, rfl⟩ := int_of z0
    have g6 := g5.kept k6
    refine ⟨_, _, rfl, rfl, fun p2 e2 hp2 he2 ne2 => ?_⟩
    refine disk_new (m := 4 + z) g6.tab (by omega) (by omega) hp2 he2 ne2 fun ls2 as2 H7 n7 hls2 dk2 al2 => ⟨rfl, ?_⟩
    have g7 := g6.nws n7
    have g57 := ((Go.refl g5.bx g5.tab).kept k6).nws n7
    refine ⟨(by show 2 ≤ sizeLine; decide), fun Ld hLd => ?_⟩
    generalize hG : upd _ _ _ = H8
    obtain ⟨x8, w8⟩ := obj_of hLd hG
    clear hG
    refine gset (by (simp only [List.set_cons_succ, List.set_cons_zero]); rfl) ?_
    have g8 := g7.exd x8
    have dk1' := dk1.go (g57.exd x8)
    have al1' := al1.imp fun u ns r => PgF.go (g57.exd x8) r
    refine ⟨_, rfl, Ld, rfl, ⟨_, SqL.of w8⟩, fun Dl hDl => ?_⟩
    have sl : ∀ n : Nat, n ≤ 2000 → n < sizeLine := fun n hn => by
      have := PySem.sizeLine_eq
      omega
    refine lc_list (K := K) (a := Ld) (xs := [V.ref p1, V.ref p2]) (fun j H' => Exd H8 H' ∧ ∃ Ss : List Addr, Ss.length = j ∧ H' Dl = some (.lst (Ss.map V.ref)) ∧ Ss.Nodup ∧ ∀ (i : Nat) (S : Addr), Ss[i]? = some S → H8 S = none ∧ ∃ qs : List Addr, H' S = some (.lst (qs.map V.ref)) ∧ qs.length = (if i = 0 then mm else 4 + z) ∧ ∀ (y : Nat) (t : Addr), qs[y]? = some t → H' t = some (.lst (numV blankN)))
      ⟨(Exd.refl H8).new hDl, [], rfl, upd_same, List.nodup_nil, fun i S e => by cases e⟩ (fun j H' _ q => SqL.of (q.1 _ _ w8)) ?_ ?_
    · rintro j x H2 hx ⟨x2, Ss, lS, w2, nd, al⟩
      obtain ⟨pp, lsp, asp, rfl, dkp, lasp⟩ : ∃ pp lsp asp, x = .ref pp ∧ DiskAt D.cDisk H8 pp lsp asp ∧ asp.length = (if j = 0 then mm else 4 + z) := by
        match j, hx with
        | 0, hx => cases hx; exact ⟨_, _, _, rfl, dk1', by rw [al1'.1, List.length_replicate]; rfl⟩
        | 1, hx => cases hx; exact ⟨_, _, _, rfl, ⟨_, x8 _ _ dk2.choose_spec.1, x8 _ _ dk2.choose_spec.2⟩, by rw [al2.1, List.length_replicate]; rfl⟩
      obtain ⟨dx, dp, dl⟩ := dkp
      have lm : asp.length ≤ 512 := by
        rw [lasp]
        split <;> omega
      have j2 : j < 2 := by
        have := (List.getElem?_eq_some_iff.mp hx).1
        exact this
      refine ⟨rfl, ?_⟩
      refine ⟨_, rfl, pp, dx, _, rfl, x2 _ _ dp, rfl, pp, lsp, asp, rfl, ⟨dx, x2 _ _ dp, x2 _ _ dl⟩, ?_⟩
      refine ⟨_, rfl, by omega, by omega, fun Di hDi => ?_⟩
      refine lc_range (lo := 0) (n := ((asp.length : Nat) : Int).toNat) (fun j' H' => Exd H2 H' ∧ ∃ ts : List Addr, ts.length = j' ∧ H' Di = some (.lst (ts.map V.ref)) ∧ ∀ (i : Nat) (t : Addr), ts[i]? = some t → H' t = some (.lst (numV blankN)))
        ⟨(Exd.refl H2).new hDi, [], rfl, upd_same, fun i t e => by cases e⟩ ?_ ?_
      · rintro j' H3 hj ⟨x3, ts, lt, w3, al3⟩
        refine ⟨rfl, (by show 1 ≤ sizeLine; decide), fun q hq => ?_⟩
        generalize hG : upd _ _ _ = H4
        obtain ⟨x4, w4⟩ := obj_of hq hG
        clear hG
        refine ⟨_, _, _, rfl, rfl, w4, by decide, by decide, (by show 20 ≤ sizeLine; decide), fun q2 hq2 => ?_⟩
        generalize hG : upd _ _ _ = H5
        obtain ⟨x5, w5⟩ := obj_of hq2 hG
        clear hG
        have w5 : H5 q2 = some (.lst (numV blankN)) := w5
        have w6 := (x4.trans x5) _ _ w3
        have hj : j' < asp.length := by omega
        refine ⟨_, w6, by rw [List.length_map, lt]; exact sl _ (by omega), xd_put ((x3.trans x4).trans x5) hDi, ts ++ [q2], by rw [List.length_append, lt]; rfl, by rw [upd_same, List.map_append]; rfl, fun i t e => ?_⟩
        rcases Nat.lt_or_ge i ts.length with li | li
        · rw [List.getElem?_append_left li] at e
          have e3 := (x4.trans x5) _ _ (al3 i t e)
          rw [upd_ne (fun y => by rw [y, w6] at e3; injection e3 with e3; exact refs_nums (by rfl) e3)]
          exact e3
        · rw [List.getElem?_append_right li] at e
          have i0 : i - ts.length = 0 := by
            have := (List.getElem?_eq_some_iff.mp e).1
            simp only [List.length_cons, List.length_nil] at this
            omega
          rw [i0] at e
          cases e
          rw [upd_ne (fun y => by rw [y, w6] at w5; injection w5 with w5; exact refs_nums (by rfl) w5)]
          exact w5
      · rintro H3 ⟨x3, ts, lt, w3, al3⟩
        have lt : ts.length = asp.length := by rw [lt]; rfl
        have w2' := x3 _ _ w2
        refine ⟨_, w2', by rw [List.length_map, lS]; exact sl _ (by omega), xd_put (x2.trans x3) hDl, Ss ++ [Di], by rw [List.length_append, lS]; rfl, by rw [upd_same, List.map_append]; rfl, ?_, fun i S e => ?_⟩
        · rw [List.nodup_append]
          refine ⟨nd, by simp, fun y hy y2 hy2 e => ?_⟩
          rw [List.mem_singleton.mp hy2] at e
          obtain ⟨i, hi⟩ := List.mem_iff_getElem?.mp hy
          obtain ⟨_, qs, hq, _⟩ := al i y hi
          rw [e, hDi] at hq
          cases hq
        · have DD : Di ≠ Dl := fun y => by rw [y, w2] at hDi; cases hDi
          rcases Nat.lt_or_ge i Ss.length with li | li
          · rw [List.getElem?_append_left li] at e
            obtain ⟨f0, qs, hq, lqs, ali⟩ := al i S e
            have nSD : S ≠ Dl := fun y => by
              rw [y, w2] at hq
              injection hq with hq
              injection hq with hq
              have := congrArg List.length hq
              rw [List.length_map, List.length_map, lqs, lS] at this
              split at this <;> omega
            refine ⟨f0, qs, by rw [upd_ne nSD]; exact x3 _ _ hq, lqs, fun y t ht => ?_⟩
            have := x3 _ _ (ali y t ht)
            rw [upd_ne (fun z2 => by rw [z2, w2'] at this; injection this with this; exact refs_nums (by rfl) this)]
            exact this
          · rw [List.getElem?_append_right li] at e
            have i0 : i - Ss.length = 0 := by
              have := (List.getElem?_eq_some_iff.mp e).1
              simp only [List.length_cons, List.length_nil] at this
              omega
            rw [i0] at e
            cases e
            have ij : i = j := by omega
            subst ij
            refine ⟨x2.free hDi, ts, by rw [upd_ne DD]; exact w3, by rw [lt, lasp], fun y u hu => ?_⟩
            have := al3 y u hu
            rw [upd_ne (fun z2 => by rw [z2, w2'] at this; injection this with this; exact refs_nums (by rfl) this)]
            exact this
    · rintro H9 ⟨x9, Ss, lS, w9, nd, al⟩
      have lS : Ss.length = 2 := lS
      obtain ⟨S1, S2, rfl⟩ : ∃ S1 S2, Ss = [S1, S2] := by
        match Ss, lS with
        | [a, b], _ => exact ⟨a, b, rfl⟩
      obtain ⟨f1, qs1, hq1, lq1, al1q⟩ := al 0 S1 rfl
      obtain ⟨f2, qs2, hq2, lq2, al2q⟩ := al 1 S2 rfl
      have lq1 : qs1.length = mm := lq1
      have lq2 : qs2.length = 4 + z := lq2
      have nS : S2 ≠ S1 := fun y => by
        rw [y] at nd
        simp at nd
      have nls : ls2 ≠ ls1 := fun y => by
        obtain ⟨dx, _, e⟩ := dk1
        have := k6.old _ _ (ne_box g5.bx e (nb_refs _)) e
        rw [← y, hls2] at this
        cases this
      have g9 := g8.exd x9
      have ad1 : Dk D.cDisk p1 ls1 S1 as1 qs1 (List.replicate mm blankN) H9 := by
        obtain ⟨dx, e1, e2⟩ := dk1'
        refine ⟨⟨dx, x9 _ _ e1, x9 _ _ e2⟩, al1'.imp fun u ns r => ⟨x9 _ _ r.1, r.2⟩, hq1, ⟨by rw [lq1, List.length_replicate], fun y t ht => ⟨blankN, ?_, al1q y t ht⟩⟩, by rw [List.length_replicate]; exact h4, by rw [List.length_replicate]; exact h5⟩
        have := (List.getElem?_eq_some_iff.mp ht).1
        rw [List.getElem?_replicate, if_pos (by omega)]
      have ad2 : Dk D.cDisk p2 ls2 S2 as2 qs2 (List.replicate (4 + z) blankN) H9 := by
        obtain ⟨dx, e1, e2⟩ := dk2
        refine ⟨⟨dx, (x8.trans x9) _ _ e1, (x8.trans x9) _ _ e2⟩, al2.imp fun u ns r => ⟨(x8.trans x9) _ _ r.1, r.2⟩, hq2, ⟨by rw [lq2, List.length_replicate], fun y t ht => ⟨blankN, ?_, al2q y t ht⟩⟩, by rw [List.length_replicate]; omega, by rw [List.length_replicate]; omega⟩
        have := (List.getElem?_eq_some_iff.mp ht).1
        rw [List.getElem?_replicate, if_pos (by omega)]
      have fr : ∀ q ∈ [ls1, S1, ls2, S2], H q = none := fun q hq => by
        simp only [List.mem_cons, List.not_mem_nil, or_false] at hq
        rcases hq with rfl | rfl | rfl | rfl
        · exact g4.free hls1
        · exact g8.free f1
        · exact g6.free hls2
        · exact g8.free f2
      have cs0 : Cs D.cDisk t1 t2 b Ld Dl p1 ls1 S1 p2 ls2 S2 0 H H9 := ⟨g9, x9 _ _ w8, w9, ⟨_, _, _, ad1, Wt.start h5⟩, ⟨_, _, _, ad2, Wt.start (by omega)⟩⟩
      refine gset (by (simp only [List.set_cons_succ, List.set_cons_zero]); rfl) ?_
      clear ad1 ad2 al1q al2q al g9 g8 g7 g57 g6 g5 dk1 dk2 dk1' al1 al2 al1'
      refine ⟨_, rfl, b, 13, rfl, cs0.go.bx, by decide, by decide, fun n H10 n0 n1 k10 => ?_⟩
      obtain ⟨n, rfl⟩ := int_of n0
      have cs1 := cs0.kept k10
      refine ⟨_, rfl, by omega, by omega, for_range (lo := 0) (fun i σ H' => (∃ v4 v5 zz v7, σ = [some (V.ref b), some (V.int (mm : Int)), some (V.ref Ld), some (V.ref Dl), v4, v5, some zz, v7] ∧ SupV D.cPower zz i H H') ∧ Cs D.cDisk t1 t2 b Ld Dl p1 ls1 S1 p2 ls2 S2 i H H')
        ⟨⟨_, _, _, _, rfl, .inl rfl⟩, cs1⟩ ?_ ?_⟩
      · rintro i σ H11 hi ⟨⟨v4, v5, zz0, v7, rfl, sv0⟩, cs0⟩
        have hi : i < 13 := by omega
        refine gset (by (simp only [List.set_cons_succ, List.set_cons_zero]); rfl) ?_
        revert zz0
        apply cut2 (Pre := fun zz H' => SupV D.cPower zz i H H' ∧ Cs D.cDisk t1 t2 b Ld Dl p1 ls1 S1 p2 ls2 S2 i H H')
        · intro tl zz0 sv0
          have gr : Go [t1, t2] b H11 H11 := Go.refl cs0.go.bx cs0.go.tab
          refine ⟨_, rfl, b, 2, rfl, cs0.go.bx, by decide, by decide, fun r H12 r0 r1 k12 => ?_⟩
          have cs2 := cs0.kept k12
          have g12 := gr.kept k12
          have sv2 := sv0.to g12
          refine ⟨rfl, _, rfl, ?_⟩
          rw [dec_int]
          by_cases c0 : r ≠ 0
          · rw [beq_eq_false_iff_ne.mpr c0]
            refine iteF ?_
            exact tl _ _ ⟨sv2, cs2⟩
          · have c0 : r = 0 := Classical.not_not.mp c0
            rw [c0]
            refine iteT ?_
            refine ⟨_, rfl, b, rfl, g12.bx, g12.tab, fun u pw dw M H13 g13 hu hpw sup => ?_⟩
            refine ⟨(by show 2 ≤ sizeLine; decide), fun p5 hp5 => ?_⟩
            generalize hG : upd _ _ _ = H14
            obtain ⟨x14, w14⟩ := obj_of hp5 hG
            clear hG
            have g14 := (g12.trans g13).exd x14
            refine ⟨_, rfl, b, 3, rfl, g14.bx, by decide, by decide, fun q H15 q0 q1 k15 => ?_⟩
            have w15 := k15.get g14.bx w14 rfl
            have g15 := g14.kept k15
            obtain ⟨v, hv, mem⟩ := at_mem (xs := [V.non, V.ref u]) (r := q % 2) (by omega) (by show q % 2 < 2; omega)
            refine ⟨_, _, rfl, rfl, (by show (0 : Int) < 2; decide), p5, _, _, _, rfl, rfl, SqL.of w15, hv, ?_⟩
            refine gset (by (simp only [List.set_cons_succ, List.set_cons_zero]); rfl) ?_
            have cs15 := cs0.to g15
            simp only [List.mem_cons, List.not_mem_nil, or_false] at mem
            rcases mem with rfl | rfl
            · exact tl _ _ ⟨.inl rfl, cs15⟩
            · refine tl _ _ ⟨.inr ⟨u, pw, dw, M, 0, rfl, ?_, Nat.zero_le _, (cs2.go).free hu, (cs2.go).free hpw⟩, cs15⟩
              have gu := ((Go.refl g13.bx g13.tab).exd x14).kept k15
              exact ⟨gu.get sup.1 rfl (fun q z => by cases z), gu.ins sup.2.1, sup.2.2⟩
        · rintro zz H12 ⟨sv, cs⟩
          try dsimp only [tNext]
          refine ⟨_, rfl, b, 4, rfl, cs.go.bx, by decide, by decide, fun r H13 r0 r1 k13 => ?_⟩
          have cs13 := cs.kept k13
          have sv13 := sv.to ((Go.refl cs.go.bx cs.go.tab).kept k13)
          clear sv
          refine ⟨rfl, .inr ⟨_, rfl, ?_⟩⟩
          obtain ⟨aI, hAI⟩ : ∃ aI : Int, aI = (if (decide (V.int r = V.int 0)) = true then 1 else 0) := ⟨_, rfl⟩
          rw [← hAI]
          replace hAI : aI = 0 ∨ aI = 1 := by
            rw [hAI]
            split
            · exact .inr rfl
            · exact .inl rfl
          refine gset (by (simp only [List.set_cons_succ, List.set_cons_zero]); rfl) ?_
          revert zz aI
          apply cut3 (Pre := fun zz aI H' => SupV D.cPower zz (i + 1) H H' ∧ Cs D.cDisk t1 t2 b Ld Dl p1 ls1 S1 p2 ls2 S2 (i + 1) H H')
          · intro tl zz sv aI hAI
            obtain ⟨as, qs, sh, d1, w1⟩ := cs13.d1
            obtain ⟨as2, qs2, sh2, d2, w2⟩ := cs13.d2
            have f1 : ∀ q ∈ [ls1, S1], H q = none := fun q hq => fr q (by
              simp only [List.mem_cons, List.not_mem_nil, or_false] at hq
              rcases hq with h | h <;> simp [h])
            have f2 : ∀ q ∈ [ls2, S2], H q = none := fun q hq => fr q (by
              simp only [List.mem_cons, List.not_mem_nil, or_false] at hq
              rcases hq with h | h <;> simp [h])
            rcases sv with hz | ⟨u, pw, dw, M, n, hz, sup, nb, hu, hpw⟩
            · refine ⟨_, rfl, rfl, _, rfl, ?_⟩
              rw [show (!decide (zz = V.non)) = false from by rw [hz]; rfl]
              refine iteF (iteF ?_)
              try dsimp only [tNext]
              rcases hAI with h0 | h0
              · refine ⟨_, rfl, _, rfl, _, rfl, Ld, _, _, _, rfl, rfl, SqL.of cs13.ld, (by rw [h0]; exact atI_nat (j := 0) rfl), _, rfl, _, rfl, Dl, _, _, _, rfl, rfl, SqL.of cs13.ls, (by rw [h0]; exact atI_nat (j := 0) rfl), _, rfl, b, p1, ls1, S1, as, qs, sh, zz, rfl, cs13.go.bx, cs13.go.tab, d1, .inl ⟨hz, fun j ns as' qs' H14 wn g e => ?_⟩⟩
                refine ⟨_, rfl, iteF ?_⟩
                exact tl zz aI H14 ⟨.inl hz, cs13.step1 d1 w1 nls nS f1 d1.far near_two g wn e⟩
              · refine ⟨_, rfl, _, rfl, _, rfl, Ld, _, _, _, rfl, rfl, SqL.of cs13.ld, (by rw [h0]; exact atI_nat (j := 1) rfl), _, rfl, _, rfl, Dl, _, _, _, rfl, rfl, SqL.of cs13.ls, (by rw [h0]; exact atI_nat (j := 1) rfl), _, rfl, b, p2, ls2, S2, as2, qs2, sh2, zz, rfl, cs13.go.bx, cs13.go.tab, d2, .inl ⟨hz, fun j ns as' qs' H14 wn g e => ?_⟩⟩
                refine ⟨_, rfl, iteF ?_⟩
                exact tl zz aI H14 ⟨.inl hz, cs13.step2 d2 w2 nls nS f2 d2.far near_two g wn e⟩
            · have fu : ∀ (l S : Addr), (∀ q ∈ [l, S], H q = none) → ∀ q ∈ [u, pw, l, S], H q = none := fun l S f q hq => by
                rcases List.mem_cons.mp hq with h | hq
                · rw [h]; exact hu
                · rcases List.mem_cons.mp hq with h | hq
                  · rw [h]; exact hpw
                  · exact f q hq
              refine ⟨_, rfl, rfl, _, rfl, ?_⟩
              rw [show (!decide (zz = V.non)) = true from by rw [hz]; rfl]
              refine iteT ?_
              refine ⟨_, rfl, u, pw, dw, M, n, by rw [hz]; rfl, sup, ?_⟩
              refine ⟨_, rfl, iteF ?_⟩
              try dsimp only [tNext]
              rcases hAI with h0 | h0
              · refine ⟨_, rfl, _, rfl, _, rfl, Ld, _, _, _, rfl, rfl, SqL.of cs13.ld, (by rw [h0]; exact atI_nat (j := 0) rfl), _, rfl, _, rfl, Dl, _, _, _, rfl, rfl, SqL.of cs13.ls, (by rw [h0]; exact atI_nat (j := 0) rfl), _, rfl, b, p1, ls1, S1, as, qs, sh, zz, rfl, cs13.go.bx, cs13.go.tab, d1, .inr ⟨u, pw, dw, M, n, hz, sup, by omega, fun j ns as' qs' n' H14 wn ln g e sup' => ?_⟩⟩
                refine ⟨_, rfl, iteF ?_⟩
                exact tl zz aI H14 ⟨.inr ⟨u, pw, dw, M, n', hz, sup', by omega, hu, hpw⟩, cs13.step1 d1 w1 nls nS (fu _ _ f1) (d1.far.sup sup) (near_sup sup) g wn e⟩
              · refine ⟨_, rfl, _, rfl, _, rfl, Ld, _, _, _, rfl, rfl, SqL.of cs13.ld, (by rw [h0]; exact atI_nat (j := 1) rfl), _, rfl, _, rfl, Dl, _, _, _, rfl, rfl, SqL.of cs13.ls, (by rw [h0]; exact atI_nat (j := 1) rfl), _, rfl, b, p2, ls2, S2, as2, qs2, sh2, zz, rfl, cs13.go.bx, cs13.go.tab, d2, .inr ⟨u, pw, dw, M, n, hz, sup, by omega, fun j ns as' qs' n' H14 wn ln g e sup' => ?_⟩⟩
                refine ⟨_, rfl, iteF ?_⟩
                exact tl zz aI H14 ⟨.inr ⟨u, pw, dw, M, n', hz, sup', by omega, hu, hpw⟩, cs13.step2 d2 w2 nls nS (fu _ _ f2) (d2.far.sup sup) (near_sup sup) g wn e⟩
          · rintro zz aI H14 ⟨sv, cs⟩
            try dsimp only [tNext]
            obtain ⟨as, qs, sh, d1, w1⟩ := cs.d1
            obtain ⟨as2, qs2, sh2, d2, w2⟩ := cs.d2
            refine ⟨_, rfl, Ld, _, _, _, rfl, rfl, SqL.of cs.ld, atI_nat (j := 0) rfl, _, rfl, Dl, _, _, _, rfl, rfl, SqL.of cs.ls, atI_nat (j := 0) rfl, p1, ls1, S1, as, qs, sh, rfl, d1, w1.mono (by omega), cs.go.tab, fun H15 x15 => ?_⟩
            have cs15 := cs.exd x15
            refine ⟨_, rfl, iteF ?_⟩
            refine ⟨_, rfl, Ld, _, _, _, rfl, rfl, SqL.of cs15.ld, atI_nat (j := 1) rfl, _, rfl, Dl, _, _, _, rfl, rfl, SqL.of cs15.ls, atI_nat (j := 1) rfl, p2, ls2, S2, as2, qs2, sh2, rfl, d2.exd x15, w2.mono (by omega), cs15.go.tab, fun H16 x16 => ?_⟩
            have cs16 := cs15.exd x16
            refine ⟨_, rfl, iteF ?_⟩
            exact ⟨⟨_, _, _, _, rfl, sv.to (((Go.refl cs.go.bx cs.go.tab).exd x15).exd x16)⟩, cs16⟩
      · rintro σ H11 ⟨⟨v4, v5, zz, v7, rfl, _⟩, cs⟩
        obtain ⟨as, qs, sh, d1, w1⟩ := cs.d1
        obtain ⟨as2, qs2, sh2, d2, w2⟩ := cs.d2
        have nle : ((n : Int)).toNat ≤ 13 := by omega
        refine ⟨_, rfl, _, rfl, Ld, _, _, _, rfl, rfl, SqL.of cs.ld, atI_nat (j := 1) rfl, _, rfl, Dl, _, _, _, rfl, rfl, SqL.of cs.ls, atI_nat (j := 1) rfl, b, p2, ls2, S2, as2, qs2, sh2, rfl, cs.go.bx, cs.go.tab, d2, w2.mono (by omega), fun H12 g12 => ?_⟩
        have cs12 := cs.to g12
        refine ⟨_, rfl, iteT ?_⟩
        refine ⟨_, rfl, Ld, _, _, _, rfl, rfl, SqL.of cs12.ld, atI_nat (j := 0) rfl, _, rfl, Dl, _, _, _, rfl, rfl, SqL.of cs12.ls, atI_nat (j := 0) rfl, p1, ls1, S1, as, qs, sh, rfl, d1.go g12, w1.mono (by omega), cs12.go.tab, fun H13 x13 => ?_⟩
        exact k _ (cs12.exd x13).go
end
end LL
namespace LL
open PySem PySem.Spec PyProof.Rows L2
theorem sqL_nws {Ps : List Addr} {H H' : Hp} {K : PySem.W.Frag} {a : Addr} {xs : List V} (x : Nws Ps H H') (h : SqL K H a xs) : SqL K H' a xs := by
  rcases h with h | h
  · refine .inl ?_
    rcases h with h | ⟨o, h⟩
    · exact .inl (x.keep _ _ (fun q z => by cases z) h)
    · exact .inr ⟨o, x.keep _ _ (fun q z => by cases z) h⟩
  · exact .inr h
theorem Go.all {Ps : List Addr} {b : Addr} {H H1 H2 H' : Hp} (n : Nws Ps H H1) (hb : H1 b = none) (x : Exd H1 H2) (g : Go Ps b H2 H') : Nws Ps H H' :=
  ⟨n.was, g.tab, fun c o nc e => g.old c o nc (ne_of_none (n.old c o nc e) hb) (x _ _ (n.old c o nc e))⟩
section
variable {P : Program} {w : World} {K : PySem.W.Frag} {mg : Str → Option Value} {base : Heap} {c1 c2 t1 t2 : Addr}
def spLaw (K : PySem.W.Frag) (t1 t2 : Addr) : Sp := fun vs H Q _ => ∃ (a : Addr) (ns : List Int), vs = [.ref a] ∧ SqL K H a (ns.map V.int) ∧ ns.length ≤ 63 ∧ (∀ R ∈ [t1, t2], GxR.TabG H R) ∧ ∀ H', Q (.bl true) H'
theorem ok_law (D : Defs K mg) (T : Tx K mg) (hc1 : D.is_page.fd.code = .ref c1) (TB1 : GxR.TabB base mg c1 t1) (hc2 : D.are_pages.fd.code = .ref c2) (TB2 : GxR.TabB base mg c2 t2) : FnG P w K mg base 18 D.law.f D.law.fd ["_law_script"] (spLaw K t1 t2) := by
  have G_law_box := ok__law_box (P := P) (w := w) (base := base) D T
  have G_law_cell_at := ok__law_cell_at (P := P) (w := w) (base := base) D T
  have G_law_case := ok__law_case (P := P) (w := w) (base := base) D T hc1 TB1 hc2 TB2
  refine fnG_of D.law.F sclaw (fun vs H Q E h => ?_) (fun cdv A outer s H vs Q E guard hr h => ?_)
  · obtain ⟨a, ns, rfl, _⟩ := h
    rfl
  · obtain ⟨a, ns, rfl, hS, len, tabs, k⟩ := h
    refine ⟨_, (pss_cons (ps_for PassesOwn.never rfl (pi_range1 rfl T.b_range (pa_cons (pe_callB (call_max2 rfl) (by rfl) T.b_max (by decide +kernel) (pa_cons pe_int (pa_cons (pe_callB (call_min2 rfl) (by rfl) T.b_min (by decide +kernel) (pa_cons pe_int (pa_cons (pe_callB call_len_seq (by rfl) T.b_len (by decide +kernel) (pa_cons (pv 0) pa_nil)) pa_nil))) pa_nil))) pa_nil)) (pg_name (i := 1) sclaw.nd rfl (Or.inl rfl)) (pss_one (ps_if (pt_not (pt_val (pcallG D._law_case G_law_case guard hr (by decide) (by rfl) (pa_cons (pcall D._law_box G_law_box hr (by decide) (by rfl) (pa_cons (pcall D._law_cell_at G_law_cell_at hr (by decide) (by rfl) (pa_cons (pv 0) (pa_cons (pv 1) pa_nil))) pa_nil)) pa_nil)))) (pss_one (ps_ret pe_bl)) pss_nil)))
        (pss_one (ps_ret pe_bl))), ?_⟩
    have hst : L2.start sclaw_N [V.ref a] = [some (.ref a), none] := rfl
    rw [hst]
    refine ⟨_, rfl, a, _, rfl, .inl hS, _, _, rfl, _, _, rfl, _, rfl, ?_, ?_, for_range (lo := 0) (fun i σ H1 => (∃ v1, σ = [some (.ref a), v1]) ∧ Nws [t1, t2] H H1)
      ⟨⟨_, rfl⟩, Nws.refl tabs⟩ ?_ ?_⟩
    · rw [List.length_map]
      split <;> split <;> omega
    · rw [List.length_map]
      split <;> split <;> omega
    · rintro i0 σ H1 hi ⟨⟨v1, rfl⟩, n1⟩
      refine gset (by (simp only [List.set_cons_succ, List.set_cons_zero]); rfl) ?_
      refine ⟨_, rfl, _, rfl, a, i0, ns, congrArg (fun y : Int => [V.ref a, V.int y]) (Int.zero_add _), sqL_nws n1 hS, fun cell => ⟨cell, rfl, fun p o hp Bo => ?_⟩⟩
      generalize hG : upd _ _ _ = H2
      obtain ⟨x2, w2⟩ := obj_of hp hG
      clear hG
      have b2 : Bx H2 p := ⟨o, w2, Bo⟩
      refine ⟨p, rfl, b2, (n1.xd x2).tab, fun H3 g3 => ?_⟩
      exact ⟨_, rfl, iteF ⟨⟨_, rfl⟩, Go.all n1 hp x2 g3⟩⟩
    · rintro σ H1 ⟨⟨v1, rfl⟩, n1⟩
      exact k H1
end
end LL
namespace LL
open PySem PySem.Spec PyProof.Rows L2
/-- an own error's facts, put together -/
def er_mk {x fld qual : Str} {st : Stmt} {K : PySem.W.Frag} {mg : Str → Option Value} {C f : Addr} {oc : Value} {od an : Option Addr} {sl : Array (Option Value)} {kV doc pm cdv ct : Value}
    {nm q N bs bm sn sub ab col dd k0 k1 k2 k3 k5} (g : mg x = some (.ref C)) (cls : K.lookup C = some (PySem.excClassObj nm q C N bs bm true sn sub ab col dd k0 k1 k2 k3 k5 "ValueError.__new__")) (ve : PySem.HandSPX.refsVE bm = true)
    (sa : PySem.W.findIn K (.ref C) "__setattr__" = some (some (.builtin "object.__setattr__"))) (ex : PySem.W.subIn K (.ref C) (.type "BaseException") = some true) (ty : PySem.W.typeIn K (.ref C) = some (.type "type")) (kc : PySem.W.keepIn K (.ref C) = true)
    (ga : PySem.W.findIn K (.ref C) "__getattribute__" = some (some (.builtin "BaseException.__getattribute__"))) (gg : PySem.W.findIn K (.ref C) "__getattr__" = some none) (hd : PySem.W.hasDictIn K C = true)
    (no : PySem.W.findIn K (.ref C) fld = some none) (ic : PySem.W.findIn K (.ref C) "__init__" = some (some (.ref f))) (ti : PySem.W.typeIn K (.ref f) = some (.type "function"))
    (l : K.lookup f = some ⟨oc, od, .func (PySem.W.fnOf "__init__" qual (defArgs st) (defBody st) (defScope st) .none kV doc pm an cdv ct), sl⟩) (c : PySem.W.codeIn K cdv qual = true) (k : PySem.W.keepIn K (.ref f) = true)
    (me : PySem.W.subIn K (.ref C) (.ref C) = some true)
    (b : ∀ (kV doc pm : Value) (an : Option Addr) (cdv ct : Value) (us : List Value), us.length = 2 → bindArgs (PySem.W.fnOf "__init__" qual (defArgs st) (defBody st) (defScope st) .none kV doc pm an cdv ct) ⟨us, []⟩ = pure ((["self", fld] : List Str).zip us)) :
    ErC K mg x fld st :=
  ⟨C, f, _, qual, g, ⟨⟨nm, q, N, bs, bm, sn, sub, ab, col, dd, k0, k1, k2, k3, k5, cls, ve⟩, sa, ex, ty, kc⟩, ⟨ga, gg, ex, hd⟩, no, ic, ti, fun_mk l c k, (fun_mk l c k).binds b, PySem.W.exm_ref ex hd ty me⟩
/-- a method's facts, put together -/
def mn_mk {C : Addr} {x qual : Str} {st : Stmt} {ps : List Str} {K : PySem.W.Frag} {f : Addr} {oc : Value} {od an : Option Addr} {sl : Array (Option Value)} {kV doc pm cdv ct : Value}
    (a : PySem.W.findIn K (.ref C) x = some (some (.ref f))) (i : PySem.W.isFn K (.ref f) = true)
    (l : K.lookup f = some ⟨oc, od, .func (PySem.W.fnOf x qual (defArgs st) (defBody st) (defScope st) .none kV doc pm an cdv ct), sl⟩)
    (c : PySem.W.codeIn K cdv qual = true) (k : PySem.W.keepIn K (.ref f) = true)
    (b : ∀ (kV doc pm : Value) (an : Option Addr) (cdv ct : Value) (us : List Value), us.length = ps.length → bindArgs (PySem.W.fnOf x qual (defArgs st) (defBody st) (defScope st) .none kV doc pm an cdv ct) ⟨us, []⟩ = pure (ps.zip us)) :
    Mn K C x qual st ps := ⟨f, _, fun_mk l c k, (fun_mk l c k).binds b, ⟨a, i, k⟩⟩
theorem mk_mk {K : PySem.W.Frag} {C : Addr} {x qual : Str} {st : Stmt} {ps : List Str} (m : Mn K C x qual st ps) (h : x = "__init__") (a : PySem.W.makesIn K C = true) (k : PySem.W.keepIn K (.ref C) = true) : Mk K C m.f :=
  ⟨a, by rw [← h]; exact m.h.at_, m.h.fn, k⟩
theorem na {K : PySem.W.Frag} {C : Addr} {f : Str} (h : PySem.W.findIn K (.ref C) f = some none) : NoAttr K C f := h
/-- a method with one default, None: its facts, put together -/
def mnD_mk {C : Addr} {x qual : Str} {st : Stmt} {ps : List Str} {K : PySem.W.Frag} {f T : Addr} {oc oT : Value} {od dT an : Option Addr} {sl sT : Array (Option Value)} {kV doc pm cdv ct : Value} {n : Nat}
    (a : PySem.W.findIn K (.ref C) x = some (some (.ref f))) (i : PySem.W.isFn K (.ref f) = true)
    (l : K.lookup f = some ⟨oc, od, .func (PySem.W.fnOf x qual (defArgs st) (defBody st) (defScope st) (.ref T) kV doc pm an cdv ct), sl⟩)
    (c : PySem.W.codeIn K cdv qual = true) (k : PySem.W.keepIn K (.ref f) = true) (lT : K.lookup T = some ⟨oT, dT, .seq #[.none] n, sT⟩)
    (b : ∀ (T : Addr) (kV doc pm : Value) (an : Option Addr) (cdv ct : Value) (us its : List Value), us.length = ps.length → its.length = 1 →
      ∃ k, bindArgs (PySem.W.fnOf x qual (defArgs st) (defBody st) (defScope st) (.ref T) kV doc pm an cdv ct) ⟨us, []⟩ = seqItems? (.ref T) >>= k ∧ k (some its.toArray) = pure (ps.zip (us ++ its.drop 1)))
    (m : Nat) (hm : m + 1 = ps.length)
    (b0 : ∀ (T : Addr) (kV doc pm : Value) (an : Option Addr) (cdv ct : Value) (us its : List Value), us.length = m → its.length = 1 →
      ∃ k, bindArgs (PySem.W.fnOf x qual (defArgs st) (defBody st) (defScope st) (.ref T) kV doc pm an cdv ct) ⟨us, []⟩ = seqItems? (.ref T) >>= k ∧ k (some its.toArray) = pure (ps.zip (us ++ its.drop 0))) :
    MnD K C x qual st ps := by
  have F : FunD K x qual (defArgs st) (defBody st) (defScope st) [.non] [] f (PySem.W.fnOf x qual (defArgs st) (defBody st) (defScope st) (.ref T) kV doc pm an cdv ct) :=
    ⟨⟨oc, od, _, kV, doc, pm, an, cdv, ct, sl, rfl, l, c, .inr ⟨fun z => (by cases z), T, _, [.none], n, rfl, lT, rfl, .cons rfl .nil⟩, .inl rfl⟩, k⟩
  refine ⟨f, _, F, ?_, ?_, ⟨a, i, k⟩⟩
  · obtain ⟨ds, v, h⟩ := F.binds1 ps.length 1 (fun z => by cases z) (by show ps.length + 0 = ps.length; omega) b
    cases v
    exact h
  · obtain ⟨ds, v, h⟩ := F.binds1 m 0 (fun z => by cases z) (by show m + 1 = ps.length; exact hm) b0
    cases v with
    | cons r v =>
      cases v
      cases r
      exact h
theorem mk_mkD {K : PySem.W.Frag} {C : Addr} {x qual : Str} {st : Stmt} {ps : List Str} (m : MnD K C x qual st ps) (h : x = "__init__") (a : PySem.W.makesIn K C = true) (k : PySem.W.keepIn K (.ref C) = true) : Mk K C m.f :=
  ⟨a, by rw [← h]; exact m.h.at_, m.h.fn, k⟩
theorem vals_app : ∀ {vs : List V} {us : List Value} {zs : List V} {ws : List Value}, Vals vs us → Vals zs ws → Vals (vs ++ zs) (us ++ ws)
  | _, _, _, _, .nil, rz => rz
  | _, _, _, _, .cons r rs, rz => .cons r (vals_app rs rz)
/-- a method with one default, called with keywords -/
theorem kbn_mk {C : Addr} {x qual : Str} {st : Stmt} {ps ks : List Str} {K : PySem.W.Frag} (m : MnD K C x qual st ps) (n : Nat)
    (b : ∀ (T : Addr) (kV doc pm : Value) (an : Option Addr) (cdv ct : Value) (us ws its : List Value), us.length = n → ws.length = ks.length → its.length = 1 →
      ∃ k, bindArgs (PySem.W.fnOf x qual (defArgs st) (defBody st) (defScope st) (.ref T) kV doc pm an cdv ct) ⟨us, ks.zip ws⟩ = seqItems? (.ref T) >>= k ∧ k (some its.toArray) = pure (ps.zip (us ++ ws))) :
    KBn K m.fd ps n ks (fun us ws => us ++ ws) (fun vs zs => vs ++ zs) := by
  refine ⟨fun s us ws kin l1 l2 => ?_, fun r rz => vals_app r rz⟩
  obtain ⟨oc, od, dV, kV, doc, pm, an, cdv, ct, osl, hfd, _, _, dv, _⟩ := m.F.ex
  rcases dv with ⟨z, _⟩ | ⟨_, T, o, its, no, rfl, lT, od, vt⟩
  · cases z
  · obtain ⟨k, e1, e2⟩ := b T kV doc pm an cdv ct us ws its l1 l2 vt.length.symm
    intro M A E Q q
    rw [hfd, e1]
    refine looks_items (h := s.heap) kin lT od (M := M) (r := ps.zip (us ++ ws)) ?_ A Q E s (fun _ _ e => e) q
    rw [e2]
    intro A Q E s2 _ q
    exact wpAny_pure q
theorem finish {l : PySem.W.OpenLaw} {w : World} {K : PySem.W.Frag} {h : Heap} {mg : Str → Option Value} {fa c1 c2 t1 t2 : Addr} (hfa : mg "law" = some (.ref fa)) (D : Defs K mg) (T : Tx K mg)
    (h1 : D.is_page.fd.code = .ref c1) (h2 : D.are_pages.fd.code = .ref c2) (bind : ∀ (s : Shared) (u : Value), BindsTo s D.law.fd ⟨[u], []⟩ [("_law_script", u)])
    (e1 : h.get? t1 = some { cls := .none, data := .fields #[] }) (f1 : K.lookup t1 = none) (g1 : PySem.W.CodeHd h c1 t1)
    (e2 : h.get? t2 = some { cls := .none, data := .fields #[] }) (f2 : K.lookup t2 = none) (g2 : PySem.W.CodeHd h c2 t2) : LawG l w K 18 63 "_law_script" mg fa h := by
  have ef : D.law.f = fa := by
    have := D.law.m.symm.trans hfa
    injection this with this
    injection this
  have two : ∀ {Pr : Addr × Addr → Prop}, Pr (c1, t1) → Pr (c2, t2) → ∀ p ∈ [(c1, t1), (c2, t2)], Pr p := fun {Pr} a b p hp => by
    rcases List.mem_cons.mp hp with rfl | hp
    · exact a
    · rw [List.mem_singleton.mp hp]
      exact b
  refine ⟨D.law.fd, [(c1, t1), (c2, t2)], spLaw K t1 t2, two e1 e2, two f1 f2, two g1 g2, bind, ?_, ?_⟩
  · intro H a ns hl ht hs
    refine ⟨a, ns, rfl, hs, hl, fun P hP => ?_, fun _ => rfl⟩
    rcases List.mem_cons.mp hP with rfl | hP
    · exact ⟨#[], ht (c1, P) List.mem_cons_self, trivial⟩
    · rw [List.mem_singleton.mp hP]
      exact ⟨#[], ht (c2, t2) (List.mem_cons_of_mem _ List.mem_cons_self), trivial⟩
  · intro base _ _ TB
    have ok := ok_law (P := l.prog) (w := w) (base := base) D T h1 (TB (c1, t1) List.mem_cons_self) h2 (TB (c2, t2) (List.mem_cons_of_mem _ List.mem_cons_self))
    rw [ef] at ok
    exact ok
end LL
open PySem PySem.W PyProof.Rows in
set_option maxRecDepth 100000 in
set_option maxHeartbeats 0 in
theorem PySem.Challenge.cw_leastlore_k06_disks_and_power_holds : PySem.Challenge.rw_leastlore_k06_disks_and_power.Holds := by
  w_on; o_law; k_head; (case hw => w_witness2)
  k_fill
  refine LL.walk_G (l := PySem.Challenge.rw_leastlore_k06_disks_and_power) (arg := "_law_script") (lvl := 18) (most := 63) rfl (by decide) rfl ⟨rfl, by decide, by decide⟩ (fun w h Y => PySem.W.kIn_of Y) ?F
  case F =>
    intro w mg fa h Y KX G hmg own
    refine' LL.finish hmg ⟨(LL.dn_mk (x := "is_whole") (st := LL.sciswhole_st) (ps := ["thing"]) KX G ?ad_is_whole ?ld_is_whole ?cd_is_whole ?kd_is_whole (fun _ _ _ _ _ _ us hl => match us, hl with | [_], _ => rfl)), (LL.dn_mk (x := "is_within") (st := LL.sciswithin_st) (ps := ["thing", "low", "high"]) KX G ?ad_is_within ?ld_is_within ?cd_is_within ?kd_is_within (fun _ _ _ _ _ _ us hl => match us, hl with | [_, _, _], _ => rfl)), (LL.dn_mk (x := "is_small") (st := LL.scissmall_st) (ps := ["thing"]) KX G ?ad_is_small ?ld_is_small ?cd_is_small ?kd_is_small (fun _ _ _ _ _ _ us hl => match us, hl with | [_], _ => rfl)), (LL.dn_mk (x := "is_page") (st := LL.scispage_st) (ps := ["thing"]) KX G ?ad_is_page ?ld_is_page ?cd_is_page ?kd_is_page (fun _ _ _ _ _ _ us hl => match us, hl with | [_], _ => rfl)), (LL.dn_mk (x := "blank_page") (st := LL.scblankpage_st) (ps := []) KX G ?ad_blank_page ?ld_blank_page ?cd_blank_page ?kd_blank_page (fun _ _ _ _ _ _ us hl => match us, hl with | [], _ => rfl)), (LL.dn_mk (x := "are_pages") (st := LL.scarepages_st) (ps := ["thing"]) KX G ?ad_are_pages ?ld_are_pages ?cd_are_pages ?kd_are_pages (fun _ _ _ _ _ _ us hl => match us, hl with | [_], _ => rfl)), (LL.dn_mk (x := "disk_of") (st := LL.scdiskof_st) (ps := ["pages"]) KX G ?ad_disk_of ?ld_disk_of ?cd_disk_of ?kd_disk_of (fun _ _ _ _ _ _ us hl => match us, hl with | [_], _ => rfl)), (LL.dn_mk (x := "_law_cell_at") (st := LL.scLcellat_st) (ps := ["_law_script", "_law_k"]) KX G ?ad_law_cell_at ?ld_law_cell_at ?cd_law_cell_at ?kd_law_cell_at (fun _ _ _ _ _ _ us hl => match us, hl with | [_, _], _ => rfl)), (LL.dn_mk (x := "_law_box") (st := LL.scLbox_st) (ps := ["_law_cell"]) KX G ?ad_law_box ?ld_law_box ?cd_law_box ?kd_law_box (fun _ _ _ _ _ _ us hl => match us, hl with | [_], _ => rfl)), (LL.dn_mk (x := "_law_take") (st := LL.scLtake_st) (ps := ["_law_box_here", "_law_many_here"]) KX G ?ad_law_take ?ld_law_take ?cd_law_take ?kd_law_take (fun _ _ _ _ _ _ us hl => match us, hl with | [_, _], _ => rfl)), (LL.dn_mk (x := "_law_crossed") (st := LL.scLcrossed_st) (ps := ["_law_one", "_law_other"]) KX G ?ad_law_crossed ?ld_law_crossed ?cd_law_crossed ?kd_law_crossed (fun _ _ _ _ _ _ us hl => match us, hl with | [_, _], _ => rfl)), (LL.dn_mk (x := "_law_check") (st := LL.scLcheck_st) (ps := ["_law_numbers_here"]) KX G ?ad_law_check ?ld_law_check ?cd_law_check ?kd_law_check (fun _ _ _ _ _ _ us hl => match us, hl with | [_], _ => rfl)), (LL.dn_mk (x := "_law_word") (st := LL.scLword_st) (ps := ["_law_box_here"]) KX G ?ad_law_word ?ld_law_word ?cd_law_word ?kd_law_word (fun _ _ _ _ _ _ us hl => match us, hl with | [_], _ => rfl)), (LL.dn_mk (x := "_law_root") (st := LL.scLroot_st) (ps := ["_law_count_here", "_law_used_here"]) KX G ?ad_law_root ?ld_law_root ?cd_law_root ?kd_law_root (fun _ _ _ _ _ _ us hl => match us, hl with | [_, _], _ => rfl)), (LL.dn_mk (x := "_law_used") (st := LL.scLused_st) (ps := ["_law_box_here", "_law_many_here"]) KX G ?ad_law_used ?ld_law_used ?cd_law_used ?kd_law_used (fun _ _ _ _ _ _ us hl => match us, hl with | [_, _], _ => rfl)), (LL.dn_mk (x := "_law_count") (st := LL.scLcount_st) (ps := ["_law_box_here"]) KX G ?ad_law_count ?ld_law_count ?cd_law_count ?kd_law_count (fun _ _ _ _ _ _ us hl => match us, hl with | [_], _ => rfl)), (LL.dn_mk (x := "_law_many") (st := LL.scLmany_st) (ps := ["_law_box_here"]) KX G ?ad_law_many ?ld_law_many ?cd_law_many ?kd_law_many (fun _ _ _ _ _ _ us hl => match us, hl with | [_], _ => rfl)), (LL.dn_mk (x := "_law_numbers") (st := LL.scLnumbers_st) (ps := ["_law_box_here"]) KX G ?ad_law_numbers ?ld_law_numbers ?cd_law_numbers ?kd_law_numbers (fun _ _ _ _ _ _ us hl => match us, hl with | [_], _ => rfl)), (LL.dn_mk (x := "_law_power") (st := LL.scLpower_st) (ps := ["_law_box_here"]) KX G ?ad_law_power ?ld_law_power ?cd_law_power ?kd_law_power (fun _ _ _ _ _ _ us hl => match us, hl with | [_], _ => rfl)), (LL.dn_mk (x := "_law_power_right") (st := LL.scLpowerright_st) (ps := ["_law_supply"]) KX G ?ad_law_power_right ?ld_law_power_right ?cd_law_power_right ?kd_law_power_right (fun _ _ _ _ _ _ us hl => match us, hl with | [_], _ => rfl)), (LL.dn_mk (x := "_law_written") (st := LL.scLwritten_st) (ps := ["_law_disk", "_law_number", "_law_numbers_here", "_law_real"]) KX G ?ad_law_written ?ld_law_written ?cd_law_written ?kd_law_written (fun _ _ _ _ _ _ us hl => match us, hl with | [_, _, _, _], _ => rfl)), (LL.dn_mk (x := "_law_step") (st := LL.scLstep_st) (ps := ["_law_box_here", "_law_disk", "_law_sheets", "_law_supply"]) KX G ?ad_law_step ?ld_law_step ?cd_law_step ?kd_law_step (fun _ _ _ _ _ _ us hl => match us, hl with | [_, _, _, _], _ => rfl)), (LL.dn_mk (x := "_law_stands") (st := LL.scLstands_st) (ps := ["_law_disk", "_law_sheets"]) KX G ?ad_law_stands ?ld_law_stands ?cd_law_stands ?kd_law_stands (fun _ _ _ _ _ _ us hl => match us, hl with | [_, _], _ => rfl)), (LL.dn_mk (x := "_law_again") (st := LL.scLagain_st) (ps := ["_law_box_here", "_law_disk", "_law_sheets"]) KX G ?ad_law_again ?ld_law_again ?cd_law_again ?kd_law_again (fun _ _ _ _ _ _ us hl => match us, hl with | [_, _, _], _ => rfl)), (LL.dn_mk (x := "_law_case") (st := LL.scLcase_st) (ps := ["_law_box_here"]) KX G ?ad_law_case ?ld_law_case ?cd_law_case ?kd_law_case (fun _ _ _ _ _ _ us hl => match us, hl with | [_], _ => rfl)), (LL.dn_mk (x := "law") (st := LL.sclaw_st) (ps := ["_law_script"]) KX G ?ad_law ?ld_law ?cd_law ?kd_law (fun _ _ _ _ _ _ us hl => match us, hl with | [_], _ => rfl)), (LL.er_mk (qual := "NoNumber.__init__") (PySem.W.mg_of KX G ?eg_NoNumber) ?ecl_NoNumber ?eve_NoNumber ?esa_NoNumber ?eex_NoNumber ?ety_NoNumber ?ekc_NoNumber ?ega_NoNumber ?egg_NoNumber ?ehd_NoNumber ?eno_NoNumber ?eic_NoNumber ?eti_NoNumber ?el_NoNumber ?ec_NoNumber ?ek_NoNumber ?eme_NoNumber (fun _ _ _ _ _ _ us hl => match us, hl with | [_, _], _ => rfl)), (LL.er_mk (qual := "NoDisk.__init__") (PySem.W.mg_of KX G ?eg_NoDisk) ?ecl_NoDisk ?eve_NoDisk ?esa_NoDisk ?eex_NoDisk ?ety_NoDisk ?ekc_NoDisk ?ega_NoDisk ?egg_NoDisk ?ehd_NoDisk ?eno_NoDisk ?eic_NoDisk ?eti_NoDisk ?el_NoDisk ?ec_NoDisk ?ek_NoDisk ?eme_NoDisk (fun _ _ _ _ _ _ us hl => match us, hl with | [_, _], _ => rfl)), (LL.er_mk (qual := "NoPage.__init__") (PySem.W.mg_of KX G ?eg_NoPage) ?ecl_NoPage ?eve_NoPage ?esa_NoPage ?eex_NoPage ?ety_NoPage ?ekc_NoPage ?ega_NoPage ?egg_NoPage ?ehd_NoPage ?eno_NoPage ?eic_NoPage ?eti_NoPage ?el_NoPage ?ec_NoPage ?ek_NoPage ?eme_NoPage (fun _ _ _ _ _ _ us hl => match us, hl with | [_, _], _ => rfl)), (LL.er_mk (qual := "Dark.__init__") (PySem.W.mg_of KX G ?eg_Dark) ?ecl_Dark ?eve_Dark ?esa_Dark ?eex_Dark ?ety_Dark ?ekc_Dark ?ega_Dark ?egg_Dark ?ehd_Dark ?eno_Dark ?eic_Dark ?eti_Dark ?el_Dark ?ec_Dark ?ek_Dark ?eme_Dark (fun _ _ _ _ _ _ us hl => match us, hl with | [_, _], _ => rfl)), _, _, (LL.mnD_mk (x := "__init__") (qual := "Power.__init__") (st := LL.scPowerinit_st) (ps := ["self", "many"]) ?am_Power___init__ ?im_Power___init__ ?lm_Power___init__ ?cm_Power___init__ ?km_Power___init__ ?tm_Power___init__ (fun _ _ _ _ _ _ _ us its hl hi => match us, its, hl, hi with | [_, _], [_], _, _ => ⟨_, rfl, rfl⟩) 1 rfl (fun _ _ _ _ _ _ _ us its hl hi => match us, its, hl, hi with | [_], [_], _, _ => ⟨_, rfl, rfl⟩)), (LL.mn_mk (x := "left_over") (qual := "Power.left_over") (st := LL.scPowerleftover_st) (ps := ["self"]) ?am_Power_left_over ?im_Power_left_over ?lm_Power_left_over ?cm_Power_left_over ?km_Power_left_over (fun _ _ _ _ _ _ us hl => match us, hl with | [_], _ => rfl)), (LL.mn_mk (x := "written") (qual := "Power.written") (st := LL.scPowerwritten_st) (ps := ["self"]) ?am_Power_written ?im_Power_written ?lm_Power_written ?cm_Power_written ?km_Power_written (fun _ _ _ _ _ _ us hl => match us, hl with | [_], _ => rfl)), (LL.mn_mk (x := "spend") (qual := "Power.spend") (st := LL.scPowerspend_st) (ps := ["self", "most"]) ?am_Power_spend ?im_Power_spend ?lm_Power_spend ?cm_Power_spend ?km_Power_spend (fun _ _ _ _ _ _ us hl => match us, hl with | [_, _], _ => rfl)), (LL.mn_mk (x := "__init__") (qual := "Disk.__init__") (st := LL.scDiskinit_st) (ps := ["self", "many"]) ?am_Disk___init__ ?im_Disk___init__ ?lm_Disk___init__ ?cm_Disk___init__ ?km_Disk___init__ (fun _ _ _ _ _ _ us hl => match us, hl with | [_, _], _ => rfl)), (LL.mn_mk (x := "how_many") (qual := "Disk.how_many") (st := LL.scDiskhowmany_st) (ps := ["self"]) ?am_Disk_how_many ?im_Disk_how_many ?lm_Disk_how_many ?cm_Disk_how_many ?km_Disk_how_many (fun _ _ _ _ _ _ us hl => match us, hl with | [_], _ => rfl)), (LL.mn_mk (x := "pages") (qual := "Disk.pages") (st := LL.scDiskpages_st) (ps := ["self"]) ?am_Disk_pages ?im_Disk_pages ?lm_Disk_pages ?cm_Disk_pages ?km_Disk_pages (fun _ _ _ _ _ _ us hl => match us, hl with | [_], _ => rfl)), (LL.mn_mk (x := "page_at") (qual := "Disk.page_at") (st := LL.scDiskpageat_st) (ps := ["self", "number"]) ?am_Disk_page_at ?im_Disk_page_at ?lm_Disk_page_at ?cm_Disk_page_at ?km_Disk_page_at (fun _ _ _ _ _ _ us hl => match us, hl with | [_, _], _ => rfl)), (LL.mnD_mk (x := "write") (qual := "Disk.write") (st := LL.scDiskwrite_st) (ps := ["self", "number", "numbers", "power"]) ?am_Disk_write ?im_Disk_write ?lm_Disk_write ?cm_Disk_write ?km_Disk_write ?tm_Disk_write (fun _ _ _ _ _ _ _ us its hl hi => match us, its, hl, hi with | [_, _, _, _], [_], _, _ => ⟨_, rfl, rfl⟩) 3 rfl (fun _ _ _ _ _ _ _ us its hl hi => match us, its, hl, hi with | [_, _, _], [_], _, _ => ⟨_, rfl, rfl⟩)), ⟨?pg_Power, ?hd_Power, ?po_Power, ?sa_Power⟩, (LL.mk_mkD _ rfl ?mk_Power ?kc_Power), (PySem.W.mg_of KX G ?cl_Power), (LL.na ?n_Power__left), (LL.na ?n_Power__spent), ⟨?pg_Disk, ?hd_Disk, ?po_Disk, ?sa_Disk⟩, (LL.mk_mk _ rfl ?mk_Disk ?kc_Disk), (PySem.W.mg_of KX G ?cl_Disk), (LL.na ?n_Disk__pages), (LL.kbn_mk _ 3 (fun _ _ _ _ _ _ _ us ws its h1 h2 h3 => match us, ws, its, h1, h2, h3 with | [_, _, _], [_], [_], _, _, _ => ⟨_, rfl, rfl⟩)), (LL.exn_mk (PySem.W.mg_of KX G ?lore)), ⟨?xaNoNumber1, ?xaNoNumber2, ?xaNoNumber3, ?xaNoNumber4, ?xaNoNumber5, ?xaNoNumber6, ?xaNoNumber7, ?xaNoNumber8⟩, ⟨?xaNoDisk1, ?xaNoDisk2, ?xaNoDisk3, ?xaNoDisk4, ?xaNoDisk5, ?xaNoDisk6, ?xaNoDisk7, ?xaNoDisk8⟩, ⟨?xaNoPage1, ?xaNoPage2, ?xaNoPage3, ?xaNoPage4, ?xaNoPage5, ?xaNoPage6, ?xaNoPage7, ?xaNoPage8⟩, ⟨?xaDark1, ?xaDark2, ?xaDark3, ?xaDark4, ?xaDark5, ?xaDark6, ?xaDark7, ?xaDark8⟩, (LL.kit_ref ?klNoNumber1 ?klNoNumber2 ?klNoNumber3 ?klNoNumber4), (LL.kit_ref ?kiNoNumberNoDisk1 ?kiNoNumberNoDisk2 ?kiNoNumberNoDisk3 ?kiNoNumberNoDisk4), (PySem.W.exm_ref ?xmNoNumberNoDisk1 ?xmNoNumberNoDisk2 ?xmNoNumberNoDisk3 ?xmNoNumberNoDisk4), (LL.kit_ref ?kiNoNumberNoPage1 ?kiNoNumberNoPage2 ?kiNoNumberNoPage3 ?kiNoNumberNoPage4), (PySem.W.exm_ref ?xmNoNumberNoPage1 ?xmNoNumberNoPage2 ?xmNoNumberNoPage3 ?xmNoNumberNoPage4), (LL.kit_ref ?kiNoNumberDark1 ?kiNoNumberDark2 ?kiNoNumberDark3 ?kiNoNumberDark4), (PySem.W.exm_ref ?xmNoNumberDark1 ?xmNoNumberDark2 ?xmNoNumberDark3 ?xmNoNumberDark4), (LL.kit_ref ?klNoDisk1 ?klNoDisk2 ?klNoDisk3 ?klNoDisk4), (LL.kit_ref ?kiNoDiskNoNumber1 ?kiNoDiskNoNumber2 ?kiNoDiskNoNumber3 ?kiNoDiskNoNumber4), (PySem.W.exm_ref ?xmNoDiskNoNumber1 ?xmNoDiskNoNumber2 ?xmNoDiskNoNumber3 ?xmNoDiskNoNumber4), (LL.kit_ref ?kiNoDiskNoPage1 ?kiNoDiskNoPage2 ?kiNoDiskNoPage3 ?kiNoDiskNoPage4), (PySem.W.exm_ref ?xmNoDiskNoPage1 ?xmNoDiskNoPage2 ?xmNoDiskNoPage3 ?xmNoDiskNoPage4), (LL.kit_ref ?kiNoDiskDark1 ?kiNoDiskDark2 ?kiNoDiskDark3 ?kiNoDiskDark4), (PySem.W.exm_ref ?xmNoDiskDark1 ?xmNoDiskDark2 ?xmNoDiskDark3 ?xmNoDiskDark4), (LL.kit_ref ?klNoPage1 ?klNoPage2 ?klNoPage3 ?klNoPage4), (LL.kit_ref ?kiNoPageNoNumber1 ?kiNoPageNoNumber2 ?kiNoPageNoNumber3 ?kiNoPageNoNumber4), (PySem.W.exm_ref ?xmNoPageNoNumber1 ?xmNoPageNoNumber2 ?xmNoPageNoNumber3 ?xmNoPageNoNumber4), (LL.kit_ref ?kiNoPageNoDisk1 ?kiNoPageNoDisk2 ?kiNoPageNoDisk3 ?kiNoPageNoDisk4), (PySem.W.exm_ref ?xmNoPageNoDisk1 ?xmNoPageNoDisk2 ?xmNoPageNoDisk3 ?xmNoPageNoDisk4), (LL.kit_ref ?kiNoPageDark1 ?kiNoPageDark2 ?kiNoPageDark3 ?kiNoPageDark4), (PySem.W.exm_ref ?xmNoPageDark1 ?xmNoPageDark2 ?xmNoPageDark3 ?xmNoPageDark4), (LL.kit_ref ?klDark1 ?klDark2 ?klDark3 ?klDark4), (LL.kit_ref ?kiDarkNoNumber1 ?kiDarkNoNumber2 ?kiDarkNoNumber3 ?kiDarkNoNumber4), (PySem.W.exm_ref ?xmDarkNoNumber1 ?xmDarkNoNumber2 ?xmDarkNoNumber3 ?xmDarkNoNumber4), (LL.kit_ref ?kiDarkNoDisk1 ?kiDarkNoDisk2 ?kiDarkNoDisk3 ?kiDarkNoDisk4), (PySem.W.exm_ref ?xmDarkNoDisk1 ?xmDarkNoDisk2 ?xmDarkNoDisk3 ?xmDarkNoDisk4), (LL.kit_ref ?kiDarkNoPage1 ?kiDarkNoPage2 ?kiDarkNoPage3 ?kiDarkNoPage4), (PySem.W.exm_ref ?xmDarkNoPage1 ?xmDarkNoPage2 ?xmDarkNoPage3 ?xmDarkNoPage4)⟩ (LL.tx_mk (PySem.W.mg_none_of KX G ?z_all) (PySem.W.mg_none_of KX G ?z_enumerate) (PySem.W.mg_none_of KX G ?z_range) (PySem.W.mg_none_of KX G ?z_tuple) (PySem.W.mg_none_of KX G ?z_sorted) (PySem.W.mg_none_of KX G ?z_isinstance) (PySem.W.mg_none_of KX G ?z_int) (PySem.W.mg_none_of KX G ?z_len) (PySem.W.mg_none_of KX G ?z_list) (PySem.W.mg_none_of KX G ?z_bool) (PySem.W.mg_none_of KX G ?z_min) (PySem.W.mg_none_of KX G ?z_repr) (PySem.W.mg_none_of KX G ?z_max) (PySem.W.mg_none_of KX G ?z_sum) (PySem.W.mg_of KX G ?g_MOST_NUMBER) (PySem.W.mg_of KX G ?g_PAGE_SIZE) (PySem.W.mg_of KX G ?g_MOST_PAGES) (PySem.W.mg_of KX G ?g_LEAST_PAGES)) ?zc0 ?zc1 (fun s u => .of_eq rfl) ?zt0_1 ?zt0_2 ?zt0_3 ?zt1_1 ?zt1_2 ?zt1_3
    (case eg_NoNumber => k_is)
    (case eic_NoNumber => k_is)
    (case ecl_NoNumber => k_is)
    (case eve_NoNumber => first | rfl | decide +kernel)
    (case esa_NoNumber => k_is)
    (case eex_NoNumber => k_is)
    (case ety_NoNumber => k_is)
    (case ekc_NoNumber => k_is)
    (case ega_NoNumber => k_is)
    (case egg_NoNumber => k_is)
    (case ehd_NoNumber => k_is)
    (case eno_NoNumber => k_is)
    (case eti_NoNumber => k_is)
    (case el_NoNumber => k_is)
    (case ec_NoNumber => k_is)
    (case ek_NoNumber => k_is)
    (case eme_NoNumber => k_is)
    (case eg_NoDisk => k_is)
    (case eic_NoDisk => k_is)
    (case ecl_NoDisk => k_is)
    (case eve_NoDisk => first | rfl | decide +kernel)
    (case esa_NoDisk => k_is)
    (case eex_NoDisk => k_is)
    (case ety_NoDisk => k_is)
    (case ekc_NoDisk => k_is)
    (case ega_NoDisk => k_is)
    (case egg_NoDisk => k_is)
    (case ehd_NoDisk => k_is)
    (case eno_NoDisk => k_is)
    (case eti_NoDisk => k_is)
    (case el_NoDisk => k_is)
    (case ec_NoDisk => k_is)
    (case ek_NoDisk => k_is)
    (case eme_NoDisk => k_is)
    (case eg_NoPage => k_is)
    (case eic_NoPage => k_is)
    (case ecl_NoPage => k_is)
    (case eve_NoPage => first | rfl | decide +kernel)
    (case esa_NoPage => k_is)
    (case eex_NoPage => k_is)
    (case ety_NoPage => k_is)
    (case ekc_NoPage => k_is)
    (case ega_NoPage => k_is)
    (case egg_NoPage => k_is)
    (case ehd_NoPage => k_is)
    (case eno_NoPage => k_is)
    (case eti_NoPage => k_is)
    (case el_NoPage => k_is)
    (case ec_NoPage => k_is)
    (case ek_NoPage => k_is)
    (case eme_NoPage => k_is)
    (case eg_Dark => k_is)
    (case eic_Dark => k_is)
    (case ecl_Dark => k_is)
    (case eve_Dark => first | rfl | decide +kernel)
    (case esa_Dark => k_is)
    (case eex_Dark => k_is)
    (case ety_Dark => k_is)
    (case ekc_Dark => k_is)
    (case ega_Dark => k_is)
    (case egg_Dark => k_is)
    (case ehd_Dark => k_is)
    (case eno_Dark => k_is)
    (case eti_Dark => k_is)
    (case el_Dark => k_is)
    (case ec_Dark => k_is)
    (case ek_Dark => k_is)
    (case eme_Dark => k_is)
    (case cl_Power => k_is)
    (case cl_Disk => k_is)
    (case lore => k_is)
    (case xaNoNumber1 => (first | k_is | (dsimp only [LL.er_mk, LL.exn_mk]; first | k_is | rfl | decide +kernel)))
    (case xaNoNumber2 => (first | k_is | (dsimp only [LL.er_mk, LL.exn_mk]; first | k_is | rfl | decide +kernel)))
    (case xaNoNumber3 => (first | k_is | (dsimp only [LL.er_mk, LL.exn_mk]; first | k_is | rfl | decide +kernel)))
    (case xaNoNumber4 => (first | k_is | (dsimp only [LL.er_mk, LL.exn_mk]; first | k_is | rfl | decide +kernel)))
    (case xaNoNumber5 => (first | k_is | (dsimp only [LL.er_mk, LL.exn_mk]; first | k_is | rfl | decide +kernel)))
    (case xaNoNumber6 => (first | k_is | (dsimp only [LL.er_mk, LL.exn_mk]; first | k_is | rfl | decide +kernel)))
    (case xaNoNumber7 => (first | k_is | (dsimp only [LL.er_mk, LL.exn_mk]; first | k_is | rfl | decide +kernel)))
    (case xaNoNumber8 => (first | k_is | (dsimp only [LL.er_mk, LL.exn_mk]; first | k_is | rfl | decide +kernel)))
    (case xaNoDisk1 => (first | k_is | (dsimp only [LL.er_mk, LL.exn_mk]; first | k_is | rfl | decide +kernel)))
    (case xaNoDisk2 => (first | k_is | (dsimp only [LL.er_mk, LL.exn_mk]; first | k_is | rfl | decide +kernel)))
    (case xaNoDisk3 => (first | k_is | (dsimp only [LL.er_mk, LL.exn_mk]; first | k_is | rfl | decide +kernel)))
    (case xaNoDisk4 => (first | k_is | (dsimp only [LL.er_mk, LL.exn_mk]; first | k_is | rfl | decide +kernel)))
    (case xaNoDisk5 => (first | k_is | (dsimp only [LL.er_mk, LL.exn_mk]; first | k_is | rfl | decide +kernel)))
    (case xaNoDisk6 => (first | k_is | (dsimp only [LL.er_mk, LL.exn_mk]; first | k_is | rfl | decide +kernel)))
    (case xaNoDisk7 => (first | k_is | (dsimp only [LL.er_mk, LL.exn_mk]; first | k_is | rfl | decide +kernel)))
    (case xaNoDisk8 => (first | k_is | (dsimp only [LL.er_mk, LL.exn_mk]; first | k_is | rfl | decide +kernel)))
    (case xaNoPage1 => (first | k_is | (dsimp only [LL.er_mk, LL.exn_mk]; first | k_is | rfl | decide +kernel)))
    (case xaNoPage2 => (first | k_is | (dsimp only [LL.er_mk, LL.exn_mk]; first | k_is | rfl | decide +kernel)))
    (case xaNoPage3 => (first | k_is | (dsimp only [LL.er_mk, LL.exn_mk]; first | k_is | rfl | decide +kernel)))
    (case xaNoPage4 => (first | k_is | (dsimp only [LL.er_mk, LL.exn_mk]; first | k_is | rfl | decide +kernel)))
    (case xaNoPage5 => (first | k_is | (dsimp only [LL.er_mk, LL.exn_mk]; first | k_is | rfl | decide +kernel)))
    (case xaNoPage6 => (first | k_is | (dsimp only [LL.er_mk, LL.exn_mk]; first | k_is | rfl | decide +kernel)))
    (case xaNoPage7 => (first | k_is | (dsimp only [LL.er_mk, LL.exn_mk]; first | k_is | rfl | decide +kernel)))
    (case xaNoPage8 => (first | k_is | (dsimp only [LL.er_mk, LL.exn_mk]; first | k_is | rfl | decide +kernel)))
    (case xaDark1 => (first | k_is | (dsimp only [LL.er_mk, LL.exn_mk]; first | k_is | rfl | decide +kernel)))
    (case xaDark2 => (first | k_is | (dsimp only [LL.er_mk, LL.exn_mk]; first | k_is | rfl | decide +kernel)))
    (case xaDark3 => (first | k_is | (dsimp only [LL.er_mk, LL.exn_mk]; first | k_is | rfl | decide +kernel)))
    (case xaDark4 => (first | k_is | (dsimp only [LL.er_mk, LL.exn_mk]; first | k_is | rfl | decide +kernel)))
    (case xaDark5 => (first | k_is | (dsimp only [LL.er_mk, LL.exn_mk]; first | k_is | rfl | decide +kernel)))
    (case xaDark6 => (first | k_is | (dsimp only [LL.er_mk, LL.exn_mk]; first | k_is | rfl | decide +kernel)))
    (case xaDark7 => (first | k_is | (dsimp only [LL.er_mk, LL.exn_mk]; first | k_is | rfl | decide +kernel)))
    (case xaDark8 => (first | k_is | (dsimp only [LL.er_mk, LL.exn_mk]; first | k_is | rfl | decide +kernel)))
    (case klNoNumber1 => (first | k_is | (dsimp only [LL.er_mk, LL.exn_mk]; first | k_is | rfl | decide +kernel)))
    (case klNoNumber2 => (first | k_is | (dsimp only [LL.er_mk, LL.exn_mk]; first | k_is | rfl | decide +kernel)))
    (case klNoNumber3 => (first | k_is | (dsimp only [LL.er_mk, LL.exn_mk]; first | k_is | rfl | decide +kernel)))
    (case klNoNumber4 => (first | k_is | (dsimp only [LL.er_mk, LL.exn_mk]; first | k_is | rfl | decide +kernel)))
    (case kiNoNumberNoDisk1 => (first | k_is | (dsimp only [LL.er_mk, LL.exn_mk]; first | k_is | rfl | decide +kernel)))
    (case kiNoNumberNoDisk2 => (first | k_is | (dsimp only [LL.er_mk, LL.exn_mk]; first | k_is | rfl | decide +kernel)))
    (case kiNoNumberNoDisk3 => (first | k_is | (dsimp only [LL.er_mk, LL.exn_mk]; first | k_is | rfl | decide +kernel)))
    (case kiNoNumberNoDisk4 => (first | k_is | (dsimp only [LL.er_mk, LL.exn_mk]; first | k_is | rfl | decide +kernel)))
    (case xmNoNumberNoDisk1 => (first | k_is | (dsimp only [LL.er_mk, LL.exn_mk]; first | k_is | rfl | decide +kernel)))
    (case xmNoNumberNoDisk2 => (first | k_is | (dsimp only [LL.er_mk, LL.exn_mk]; first | k_is | rfl | decide +kernel)))
    (case xmNoNumberNoDisk3 => (first | k_is | (dsimp only [LL.er_mk, LL.exn_mk]; first | k_is | rfl | decide +kernel)))
    (case xmNoNumberNoDisk4 => (first | k_is | (dsimp only [LL.er_mk, LL.exn_mk]; first | k_is | rfl | decide +kernel)))
    (case kiNoNumberNoPage1 => (first | k_is | (dsimp only [LL.er_mk, LL.exn_mk]; first | k_is | rfl | decide +kernel)))
    (case kiNoNumberNoPage2 => (first | k_is | (dsimp only [LL.er_mk, LL.exn_mk]; first | k_is | rfl | decide +kernel)))
    (case kiNoNumberNoPage3 => (first | k_is | (dsimp only [LL.er_mk, LL.exn_mk]; first | k_is | rfl | decide +kernel)))
    (case kiNoNumberNoPage4 => (first | k_is | (dsimp only [LL.er_mk, LL.exn_mk]; first | k_is | rfl | decide +kernel)))
    (case xmNoNumberNoPage1 => (first | k_is | (dsimp only [LL.er_mk, LL.exn_mk]; first | k_is | rfl | decide +kernel)))
    (case xmNoNumberNoPage2 => (first | k_is | (dsimp only [LL.er_mk, LL.exn_mk]; first | k_is | rfl | decide +kernel)))
    (case xmNoNumberNoPage3 => (first | k_is | (dsimp only [LL.er_mk, LL.exn_mk]; first | k_is | rfl | decide +kernel)))
    (case xmNoNumberNoPage4 => (first | k_is | (dsimp only [LL.er_mk, LL.exn_mk]; first | k_is | rfl | decide +kernel)))
    (case kiNoNumberDark1 => (first | k_is | (dsimp only [LL.er_mk, LL.exn_mk]; first | k_is | rfl | decide +kernel)))
    (case kiNoNumberDark2 => (first | k_is | (dsimp only [LL.er_mk, LL.exn_mk]; first | k_is | rfl | decide +kernel)))
    (case kiNoNumberDark3 => (first | k_is | (dsimp only [LL.er_mk, LL.exn_mk]; first | k_is | rfl | decide +kernel)))
    (case kiNoNumberDark4 => (first | k_is | (dsimp only [LL.er_mk, LL.exn_mk]; first | k_is | rfl | decide +kernel)))
    (case xmNoNumberDark1 => (first | k_is | (dsimp only [LL.er_mk, LL.exn_mk]; first | k_is | rfl | decide +kernel)))
    (case xmNoNumberDark2 => (first | k_is | (dsimp only [LL.er_mk, LL.exn_mk]; first | k_is | rfl | decide +kernel)))
    (case xmNoNumberDark3 => (first | k_is | (dsimp only [LL.er_mk, LL.exn_mk]; first | k_is | rfl | decide +kernel)))
    (case xmNoNumberDark4 => (first | k_is | (dsimp only [LL.er_mk, LL.exn_mk]; first | k_is | rfl | decide +kernel)))
    (case klNoDisk1 => (first | k_is | (dsimp only [LL.er_mk, LL.exn_mk]; first | k_is | rfl | decide +kernel)))
    (case klNoDisk2 => (first | k_is | (dsimp only [LL.er_mk, LL.exn_mk]; first | k_is | rfl | decide +kernel)))
    (case klNoDisk3 => (first | k_is | (dsimp only [LL.er_mk, LL.exn_mk]; first | k_is | rfl | decide +kernel)))
    (case klNoDisk4 => (first | k_is | (dsimp only [LL.er_mk, LL.exn_mk]; first | k_is | rfl | decide +kernel)))
    (case kiNoDiskNoNumber1 => (first | k_is | (dsimp only [LL.er_mk, LL.exn_mk]; first | k_is | rfl | decide +kernel)))
    (case kiNoDiskNoNumber2 => (first | k_is | (dsimp only [LL.er_mk, LL.exn_mk]; first | k_is | rfl | decide +kernel)))
    (case kiNoDiskNoNumber3 => (first | k_is | (dsimp only [LL.er_mk, LL.exn_mk]; first | k_is | rfl | decide +kernel)))
    (case kiNoDiskNoNumber4 => (first | k_is | (dsimp only [LL.er_mk, LL.exn_mk]; first | k_is | rfl | decide +kernel)))
    (case xmNoDiskNoNumber1 => (first | k_is | (dsimp only [LL.er_mk, LL.exn_mk]; first | k_is | rfl | decide +kernel)))
    (case xmNoDiskNoNumber2 => (first | k_is | (dsimp only [LL.er_mk, LL.exn_mk]; first | k_is | rfl | decide +kernel)))
    (case xmNoDiskNoNumber3 => (first | k_is | (dsimp only [LL.er_mk, LL.exn_mk]; first | k_is | rfl | decide +kernel)))
    (case xmNoDiskNoNumber4 => (first | k_is | (dsimp only [LL.er_mk, LL.exn_mk]; first | k_is | rfl | decide +kernel)))
    (case kiNoDiskNoPage1 => (first | k_is | (dsimp only [LL.er_mk, LL.exn_mk]; first | k_is | rfl | decide +kernel)))
    (case kiNoDiskNoPage2 => (first | k_is | (dsimp only [LL.er_mk, LL.exn_mk]; first | k_is | rfl | decide +kernel)))
    (case kiNoDiskNoPage3 => (first | k_is | (dsimp only [LL.er_mk, LL.exn_mk]; first | k_is | rfl | decide +kernel)))
    (case kiNoDiskNoPage4 => (first | k_is | (dsimp only [LL.er_mk, LL.exn_mk]; first | k_is | rfl | decide +kernel)))
    (case xmNoDiskNoPage1 => (first | k_is | (dsimp only [LL.er_mk, LL.exn_mk]; first | k_is | rfl | decide +kernel)))
    (case xmNoDiskNoPage2 => (first | k_is | (dsimp only [LL.er_mk, LL.exn_mk]; first | k_is | rfl | decide +kernel)))
    (case xmNoDiskNoPage3 => (first | k_is | (dsimp only [LL.er_mk, LL.exn_mk]; first | k_is | rfl | decide +kernel)))
    (case xmNoDiskNoPage4 => (first | k_is | (dsimp only [LL.er_mk, LL.exn_mk]; first | k_is | rfl | decide +kernel)))
    (case kiNoDiskDark1 => (first | k_is | (dsimp only [LL.er_mk, LL.exn_mk]; first | k_is | rfl | decide +kernel)))
    (case kiNoDiskDark2 => (first | k_is | (dsimp only [LL.er_mk, LL.exn_mk]; first | k_is | rfl | decide +kernel)))
    (case kiNoDiskDark3 => (first | k_is | (dsimp only [LL.er_mk, LL.exn_mk]; first | k_is | rfl | decide +kernel)))
    (case kiNoDiskDark4 => (first | k_is | (dsimp only [LL.er_mk, LL.exn_mk]; first | k_is | rfl | decide +kernel)))
    (case xmNoDiskDark1 => (first | k_is | (dsimp only [LL.er_mk, LL.exn_mk]; first | k_is | rfl | decide +kernel)))
    (case xmNoDiskDark2 => (first | k_is | (dsimp only [LL.er_mk, LL.exn_mk]; first | k_is | rfl | decide +kernel)))
    (case xmNoDiskDark3 => (first | k_is | (dsimp only [LL.er_mk, LL.exn_mk]; first | k_is | rfl | decide +kernel)))
    (case xmNoDiskDark4 => (first | k_is | (dsimp only [LL.er_mk, LL.exn_mk]; first | k_is | rfl | decide +kernel)))
    (case klNoPage1 => (first | k_is | (dsimp only [LL.er_mk, LL.exn_mk]; first | k_is | rfl | decide +kernel)))
    (case klNoPage2 => (first | k_is | (dsimp only [LL.er_mk, LL.exn_mk]; first | k_is | rfl | decide +kernel)))
    (case klNoPage3 => (first | k_is | (dsimp only [LL.er_mk, LL.exn_mk]; first | k_is | rfl | decide +kernel)))
    (case klNoPage4 => (first | k_is | (dsimp only [LL.er_mk, LL.exn_mk]; first | k_is | rfl | decide +kernel)))
    (case kiNoPageNoNumber1 => (first | k_is | (dsimp only [LL.er_mk, LL.exn_mk]; first | k_is | rfl | decide +kernel)))
    (case kiNoPageNoNumber2 => (first | k_is | (dsimp only [LL.er_mk, LL.exn_mk]; first | k_is | rfl | decide +kernel)))
    (case kiNoPageNoNumber3 => (first | k_is | (dsimp only [LL.er_mk, LL.exn_mk]; first | k_is | rfl | decide +kernel)))
    (case kiNoPageNoNumber4 => (first | k_is | (dsimp only [LL.er_mk, LL.exn_mk]; first | k_is | rfl | decide +kernel)))
    (case xmNoPageNoNumber1 => (first | k_is | (dsimp only [LL.er_mk, LL.exn_mk]; first | k_is | rfl | decide +kernel)))
    (case xmNoPageNoNumber2 => (first | k_is | (dsimp only [LL.er_mk, LL.exn_mk]; first | k_is | rfl | decide +kernel)))
    (case xmNoPageNoNumber3 => (first | k_is | (dsimp only [LL.er_mk, LL.exn_mk]; first | k_is | rfl | decide +kernel)))
    (case xmNoPageNoNumber4 => (first | k_is | (dsimp only [LL.er_mk, LL.exn_mk]; first | k_is | rfl | decide +kernel)))
    (case kiNoPageNoDisk1 => (first | k_is | (dsimp only [LL.er_mk, LL.exn_mk]; first | k_is | rfl | decide +kernel)))
    (case kiNoPageNoDisk2 => (first | k_is | (dsimp only [LL.er_mk, LL.exn_mk]; first | k_is | rfl | decide +kernel)))
    (case kiNoPageNoDisk3 => (first | k_is | (dsimp only [LL.er_mk, LL.exn_mk]; first | k_is | rfl | decide +kernel)))
    (case kiNoPageNoDisk4 => (first | k_is | (dsimp only [LL.er_mk, LL.exn_mk]; first | k_is | rfl | decide +kernel)))
    (case xmNoPageNoDisk1 => (first | k_is | (dsimp only [LL.er_mk, LL.exn_mk]; first | k_is | rfl | decide +kernel)))
    (case xmNoPageNoDisk2 => (first | k_is | (dsimp only [LL.er_mk, LL.exn_mk]; first | k_is | rfl | decide +kernel)))
    (case xmNoPageNoDisk3 => (first | k_is | (dsimp only [LL.er_mk, LL.exn_mk]; first | k_is | rfl | decide +kernel)))
    (case xmNoPageNoDisk4 => (first | k_is | (dsimp only [LL.er_mk, LL.exn_mk]; first | k_is | rfl | decide +kernel)))
    (case kiNoPageDark1 => (first | k_is | (dsimp only [LL.er_mk, LL.exn_mk]; first | k_is | rfl | decide +kernel)))
    (case kiNoPageDark2 => (first | k_is | (dsimp only [LL.er_mk, LL.exn_mk]; first | k_is | rfl | decide +kernel)))
    (case kiNoPageDark3 => (first | k_is | (dsimp only [LL.er_mk, LL.exn_mk]; first | k_is | rfl | decide +kernel)))
    (case kiNoPageDark4 => (first | k_is | (dsimp only [LL.er_mk, LL.exn_mk]; first | k_is | rfl | decide +kernel)))
    (case xmNoPageDark1 => (first | k_is | (dsimp only [LL.er_mk, LL.exn_mk]; first | k_is | rfl | decide +kernel)))
    (case xmNoPageDark2 => (first | k_is | (dsimp only [LL.er_mk, LL.exn_mk]; first | k_is | rfl | decide +kernel)))
    (case xmNoPageDark3 => (first | k_is | (dsimp only [LL.er_mk, LL.exn_mk]; first | k_is | rfl | decide +kernel)))
    (case xmNoPageDark4 => (first | k_is | (dsimp only [LL.er_mk, LL.exn_mk]; first | k_is | rfl | decide +kernel)))
    (case klDark1 => (first | k_is | (dsimp only [LL.er_mk, LL.exn_mk]; first | k_is | rfl | decide +kernel)))
    (case klDark2 => (first | k_is | (dsimp only [LL.er_mk, LL.exn_mk]; first | k_is | rfl | decide +kernel)))
    (case klDark3 => (first | k_is | (dsimp only [LL.er_mk, LL.exn_mk]; first | k_is | rfl | decide +kernel)))
    (case klDark4 => (first | k_is | (dsimp only [LL.er_mk, LL.exn_mk]; first | k_is | rfl | decide +kernel)))
    (case kiDarkNoNumber1 => (first | k_is | (dsimp only [LL.er_mk, LL.exn_mk]; first | k_is | rfl | decide +kernel)))
    (case kiDarkNoNumber2 => (first | k_is | (dsimp only [LL.er_mk, LL.exn_mk]; first | k_is | rfl | decide +kernel)))
    (case kiDarkNoNumber3 => (first | k_is | (dsimp only [LL.er_mk, LL.exn_mk]; first | k_is | rfl | decide +kernel)))
    (case kiDarkNoNumber4 => (first | k_is | (dsimp only [LL.er_mk, LL.exn_mk]; first | k_is | rfl | decide +kernel)))
    (case xmDarkNoNumber1 => (first | k_is | (dsimp only [LL.er_mk, LL.exn_mk]; first | k_is | rfl | decide +kernel)))
    (case xmDarkNoNumber2 => (first | k_is | (dsimp only [LL.er_mk, LL.exn_mk]; first | k_is | rfl | decide +kernel)))
    (case xmDarkNoNumber3 => (first | k_is | (dsimp only [LL.er_mk, LL.exn_mk]; first | k_is | rfl | decide +kernel)))
    (case xmDarkNoNumber4 => (first | k_is | (dsimp only [LL.er_mk, LL.exn_mk]; first | k_is | rfl | decide +kernel)))
    (case kiDarkNoDisk1 => (first | k_is | (dsimp only [LL.er_mk, LL.exn_mk]; first | k_is | rfl | decide +kernel)))
    (case kiDarkNoDisk2 => (first | k_is | (dsimp only [LL.er_mk, LL.exn_mk]; first | k_is | rfl | decide +kernel)))
    (case kiDarkNoDisk3 => (first | k_is | (dsimp only [LL.er_mk, LL.exn_mk]; first | k_is | rfl | decide +kernel)))
    (case kiDarkNoDisk4 => (first | k_is | (dsimp only [LL.er_mk, LL.exn_mk]; first | k_is | rfl | decide +kernel)))
    (case xmDarkNoDisk1 => (first | k_is | (dsimp only [LL.er_mk, LL.exn_mk]; first | k_is | rfl | decide +kernel)))
    (case xmDarkNoDisk2 => (first | k_is | (dsimp only [LL.er_mk, LL.exn_mk]; first | k_is | rfl | decide +kernel)))
    (case xmDarkNoDisk3 => (first | k_is | (dsimp only [LL.er_mk, LL.exn_mk]; first | k_is | rfl | decide +kernel)))
    (case xmDarkNoDisk4 => (first | k_is | (dsimp only [LL.er_mk, LL.exn_mk]; first | k_is | rfl | decide +kernel)))
    (case kiDarkNoPage1 => (first | k_is | (dsimp only [LL.er_mk, LL.exn_mk]; first | k_is | rfl | decide +kernel)))
    (case kiDarkNoPage2 => (first | k_is | (dsimp only [LL.er_mk, LL.exn_mk]; first | k_is | rfl | decide +kernel)))
    (case kiDarkNoPage3 => (first | k_is | (dsimp only [LL.er_mk, LL.exn_mk]; first | k_is | rfl | decide +kernel)))
    (case kiDarkNoPage4 => (first | k_is | (dsimp only [LL.er_mk, LL.exn_mk]; first | k_is | rfl | decide +kernel)))
    (case xmDarkNoPage1 => (first | k_is | (dsimp only [LL.er_mk, LL.exn_mk]; first | k_is | rfl | decide +kernel)))
    (case xmDarkNoPage2 => (first | k_is | (dsimp only [LL.er_mk, LL.exn_mk]; first | k_is | rfl | decide +kernel)))
    (case xmDarkNoPage3 => (first | k_is | (dsimp only [LL.er_mk, LL.exn_mk]; first | k_is | rfl | decide +kernel)))
    (case xmDarkNoPage4 => (first | k_is | (dsimp only [LL.er_mk, LL.exn_mk]; first | k_is | rfl | decide +kernel)))
    (case am_Power___init__ => k_is)
    (case im_Power___init__ => k_is)
    (case lm_Power___init__ => k_is)
    (case tm_Power___init__ => k_is)
    (case cm_Power___init__ => k_is)
    (case km_Power___init__ => k_is)
    (case am_Power_left_over => k_is)
    (case im_Power_left_over => k_is)
    (case lm_Power_left_over => k_is)
    (case cm_Power_left_over => k_is)
    (case km_Power_left_over => k_is)
    (case am_Power_written => k_is)
    (case im_Power_written => k_is)
    (case lm_Power_written => k_is)
    (case cm_Power_written => k_is)
    (case km_Power_written => k_is)
    (case am_Power_spend => k_is)
    (case im_Power_spend => k_is)
    (case lm_Power_spend => k_is)
    (case cm_Power_spend => k_is)
    (case km_Power_spend => k_is)
    (case am_Disk___init__ => k_is)
    (case im_Disk___init__ => k_is)
    (case lm_Disk___init__ => k_is)
    (case cm_Disk___init__ => k_is)
    (case km_Disk___init__ => k_is)
    (case am_Disk_how_many => k_is)
    (case im_Disk_how_many => k_is)
    (case lm_Disk_how_many => k_is)
    (case cm_Disk_how_many => k_is)
    (case km_Disk_how_many => k_is)
    (case am_Disk_pages => k_is)
    (case im_Disk_pages => k_is)
    (case lm_Disk_pages => k_is)
    (case cm_Disk_pages => k_is)
    (case km_Disk_pages => k_is)
    (case am_Disk_page_at => k_is)
    (case im_Disk_page_at => k_is)
    (case lm_Disk_page_at => k_is)
    (case cm_Disk_page_at => k_is)
    (case km_Disk_page_at => k_is)
    (case am_Disk_write => k_is)
    (case im_Disk_write => k_is)
    (case lm_Disk_write => k_is)
    (case tm_Disk_write => k_is)
    (case cm_Disk_write => k_is)
    (case km_Disk_write => k_is)
    (case pg_Power => k_is)
    (case hd_Power => k_is)
    (case po_Power => k_is)
    (case sa_Power => k_is)
    (case mk_Power => k_is)
    (case kc_Power => k_is)
    (case n_Power__left => k_is)
    (case n_Power__spent => k_is)
    (case pg_Disk => k_is)
    (case hd_Disk => k_is)
    (case po_Disk => k_is)
    (case sa_Disk => k_is)
    (case mk_Disk => k_is)
    (case kc_Disk => k_is)
    (case n_Disk__pages => k_is)
    (case ad_law => k_is)
    (case ld_law => k_is)
    (case cd_law => k_is)
    (case kd_law => k_is)
    (case ad_law_case => k_is)
    (case ld_law_case => k_is)
    (case cd_law_case => k_is)
    (case kd_law_case => k_is)
    (case ad_law_again => k_is)
    (case ld_law_again => k_is)
    (case cd_law_again => k_is)
    (case kd_law_again => k_is)
    (case ad_law_stands => k_is)
    (case ld_law_stands => k_is)
    (case cd_law_stands => k_is)
    (case kd_law_stands => k_is)
    (case ad_law_step => k_is)
    (case ld_law_step => k_is)
    (case cd_law_step => k_is)
    (case kd_law_step => k_is)
    (case ad_law_written => k_is)
    (case ld_law_written => k_is)
    (case cd_law_written => k_is)
    (case kd_law_written => k_is)
    (case ad_law_power_right => k_is)
    (case ld_law_power_right => k_is)
    (case cd_law_power_right => k_is)
    (case kd_law_power_right => k_is)
    (case ad_law_power => k_is)
    (case ld_law_power => k_is)
    (case cd_law_power => k_is)
    (case kd_law_power => k_is)
    (case ad_law_numbers => k_is)
    (case ld_law_numbers => k_is)
    (case cd_law_numbers => k_is)
    (case kd_law_numbers => k_is)
    (case ad_law_many => k_is)
    (case ld_law_many => k_is)
    (case cd_law_many => k_is)
    (case kd_law_many => k_is)
    (case ad_law_count => k_is)
    (case ld_law_count => k_is)
    (case cd_law_count => k_is)
    (case kd_law_count => k_is)
    (case ad_law_used => k_is)
    (case ld_law_used => k_is)
    (case cd_law_used => k_is)
    (case kd_law_used => k_is)
    (case ad_law_root => k_is)
    (case ld_law_root => k_is)
    (case cd_law_root => k_is)
    (case kd_law_root => k_is)
    (case ad_law_word => k_is)
    (case ld_law_word => k_is)
    (case cd_law_word => k_is)
    (case kd_law_word => k_is)
    (case ad_law_check => k_is)
    (case ld_law_check => k_is)
    (case cd_law_check => k_is)
    (case kd_law_check => k_is)
    (case ad_law_crossed => k_is)
    (case ld_law_crossed => k_is)
    (case cd_law_crossed => k_is)
    (case kd_law_crossed => k_is)
    (case ad_law_take => k_is)
    (case ld_law_take => k_is)
    (case cd_law_take => k_is)
    (case kd_law_take => k_is)
    (case ad_law_box => k_is)
    (case ld_law_box => k_is)
    (case cd_law_box => k_is)
    (case kd_law_box => k_is)
    (case ad_law_cell_at => k_is)
    (case ld_law_cell_at => k_is)
    (case cd_law_cell_at => k_is)
    (case kd_law_cell_at => k_is)
    (case ad_disk_of => k_is)
    (case ld_disk_of => k_is)
    (case cd_disk_of => k_is)
    (case kd_disk_of => k_is)
    (case ad_are_pages => k_is)
    (case ld_are_pages => k_is)
    (case cd_are_pages => k_is)
    (case kd_are_pages => k_is)
    (case ad_blank_page => k_is)
    (case ld_blank_page => k_is)
    (case cd_blank_page => k_is)
    (case kd_blank_page => k_is)
    (case ad_is_page => k_is)
    (case ld_is_page => k_is)
    (case cd_is_page => k_is)
    (case kd_is_page => k_is)
    (case ad_is_small => k_is)
    (case ld_is_small => k_is)
    (case cd_is_small => k_is)
    (case kd_is_small => k_is)
    (case ad_is_within => k_is)
    (case ld_is_within => k_is)
    (case cd_is_within => k_is)
    (case kd_is_within => k_is)
    (case ad_is_whole => k_is)
    (case ld_is_whole => k_is)
    (case cd_is_whole => k_is)
    (case kd_is_whole => k_is)
    (case z_all => k_is)
    (case z_enumerate => k_is)
    (case z_range => k_is)
    (case z_tuple => k_is)
    (case z_sorted => k_is)
    (case z_isinstance => k_is)
    (case z_int => k_is)
    (case z_len => k_is)
    (case z_list => k_is)
    (case z_bool => k_is)
    (case z_min => k_is)
    (case z_repr => k_is)
    (case z_max => k_is)
    (case z_sum => k_is)
    (case g_MOST_NUMBER => k_is)
    (case g_PAGE_SIZE => k_is)
    (case g_MOST_PAGES => k_is)
    (case g_LEAST_PAGES => k_is)
    (case zc0 => rfl)
    (case zt0_1 => (refine' LL.own_mk (fun f hf => own "is_page" f (by decide +kernel) hf) (PySem.W.mg_of KX G ?mm) ?y0 ?y1 ?y2 ?y3 ?y4; (case mm => k_is); (case y0 => k_is); (case y1 => rfl); (case y2 => rfl); (case y3 => k_is); (case y4 => rfl)))
    (case zt0_2 => first | rfl | kernel_rfl)
    (case zt0_3 => (refine' LL.code_mk KX ?lk ?x2 ?x3 ?x4 ?x5 ?x6 ?x7 ?x8; (case lk => k_is); (case x2 => rfl); (case x3 => rfl); (case x4 => rfl); (case x5 => rfl); (case x6 => rfl); (case x7 => rfl); (case x8 => decide)))
    (case zc1 => rfl)
    (case zt1_1 => (refine' LL.own_mk (fun f hf => own "are_pages" f (by decide +kernel) hf) (PySem.W.mg_of KX G ?mm) ?y0 ?y1 ?y2 ?y3 ?y4; (case mm => k_is); (case y0 => k_is); (case y1 => rfl); (case y2 => rfl); (case y3 => k_is); (case y4 => rfl)))
    (case zt1_2 => first | rfl | kernel_rfl)
    (case zt1_3 => (refine' LL.code_mk KX ?lk ?x2 ?x3 ?x4 ?x5 ?x6 ?x7 ?x8; (case lk => k_is); (case x2 => rfl); (case x3 => rfl); (case x4 => rfl); (case x5 => rfl); (case x6 => rfl); (case x7 => rfl); (case x8 => decide)))
