import PyProof.Rows.All
import Wide.All
import OpenK.AllK
import Wide.FinOn
import HandS.ForMost
import HandS.AnyAll
import HandS.IsInst
import HandS.Style
import HandS.Replace
import HandS.EndTab
import HandS.EndOwn
import HandS.Walk
import HandS.RaiseMore
import KE.IntTextText
import PySem.Challenge.RW_leastlore_k11_words_told
set_option Elab.async false
set_option linter.all false
set_option maxRecDepth 100000
set_option maxHeartbeats 4000000
namespace LL
open PySem PySem.Spec PyProof.Rows L2

/-- the element over one sign; the name y is captured and holds the text b -/
def EltC (prog : Program) (w : World) (scope : Scope) (x y : Str) (elt : Expr) (b : Str) (pb : Nat → Bool) : Prop :=
  ∀ (ce : Env) (B : Around) (Ex : Value → Shared → Prop) (d : Nat) (u v : Tok) (r : Shared) (mm : Str → Option Value) (q : Addr),
    ce.scope = scope → ce.cells.lookup y = some q → r.heap.IsCell q (some (.str b v)) → r.heap.Ns ce.locals mm →
    mm x = some (.str ⟨#[d]⟩ u) → wpAny (model prog w) B (eval elt ce) (fun z r' => z = .bool (pb d) ∧ Keeps r r') Ex r

/-- sign in signs -/
theorem elt_in {prog : Program} {w : World} {scope : Scope} {x y b : Str} {p1 p2 p3 : Pos} (hk : scope.kind = .function)
    (hl : scope.names.lookup x = some .local) (hy : scope.names.lookup y = some .free)
    (d1 : (x == ("__debug__" : Str)) = false := by decide) (d2 : (y == ("__debug__" : Str)) = false := by decide)
    (d3 : (y == ("__classdict__" : Str)) = false := by decide) :
    EltC prog w scope x y (.Compare (.Name x p1) [.In] [.Name y p2] p3) b
      (fun c => !(Builtin.Str.occurrences b ⟨#[c]⟩ 0 b.length 1).isEmpty) := by
  intro ce B Ex d u v r mm q hs hc hq hn hm
  refine wpAny_Compare1 ?_
  refine wpAny_Name (wpAny_loadName_local (by rw [hs]; exact hk)
    (show ce.scope.names.lookup x = some .local by rw [hs]; exact hl) hn hm ?_) d1
  refine wpAny_Name (wpAny_loadName_free (by rw [hs]; exact hk)
    (show ce.scope.names.lookup y = some .free by rw [hs]; exact hy) hc hq ?_ d3) d2
  exact in_str ⟨rfl, GxR.keeps_tok _ _⟩

section
variable {X : Cx} {pins : List (Addr × Obj)} {σ : L2.St} {H : Hp} {s : Shared}

theorem gen_cap {c P : Addr} {elt iter : Expr} {x y : Str} {px gpos : Pos} {scope : Scope} {pb : Str → Nat → Bool}
    {te : TE} {k j : Nat} {Q' : Value → Shared → Prop} {R : Str → Str → Hp → Prop}
    (room : Room k X.A) (tabB : GxR.TabB X.base X.mg c P) (code_ : X.env.code = .ref c) (S : GxR.GenS X.env scope x)
    (it_ : PE X iter te) (el_ : ∀ b, EltC X.prog X.w scope x y elt b (pb b))
    (hj : X.N[j]? = some y) (hcel : X.env.scope.names.lookup y = some .cell)
    (hclo : ∀ cells q, cells.lookup y = some q → (cloFrom cells scope.names []).lookup y = some q)
    (fold_ : ∀ v, genFold iter X.env v = pure v) (I : Inv X pins σ H s)
    (h : te σ H fun v H1 => ∃ a b : Str, v = .str a ∧ σ[j]? = some (some (.str b)) ∧ GxR.TabG H1 P ∧ R a b H1)
    (fin : ∀ a b H1 g s5, R a b H1 → GxR.Ready X pins σ H1 P a (pb b) g s5 → Q' (.ref g) s5) :
    wpAny (model X.prog X.w) X.A (eval (.GeneratorExp elt [⟨.Name x px, iter, [], 0⟩] scope gpos) X.env) Q' X.xe s := by
  refine wpAny_GeneratorExp_walksQ room.hd S.co (closure_ok S.free) S.cell S.dot S.loc S.kind
    (by have := room.dp; omega) ?_ fold_
  refine thn (it_.run pins s σ H _ I h) fun vx r1 ⟨v, H1, J, rel, want⟩ => ?_
  obtain ⟨a, b, rfl, hb, ⟨tb, hTP, htri⟩, want⟩ := want
  obtain ⟨tk0, rfl⟩ := _root_.id rel
  -- the captured cell
  obtain ⟨mloc, _, hlook⟩ := J.loc
  obtain ⟨ub, rub, lub⟩ := hlook j y (.str b) hj hb (Or.inr (Or.inl hcel))
  obtain ⟨tkb, rfl⟩ := (show ∃ t, ub = Value.str b t from rub)
  have capt : ∃ q, X.env.cells.lookup y = some q ∧ r1.heap.IsCell q (some (.str b tkb)) := by
    rcases lub with ⟨hk1, _⟩ | ⟨_, q, hq1, hq2⟩
    · have hk2 : X.env.scope.names.lookup y = some .local := hk1
      rw [hcel] at hk2
      cases hk2
    · exact ⟨q, hq1, hq2⟩
  obtain ⟨q, hq1, oq, hqo, hqd⟩ := capt
  refine wpAny_pyIter_str fun ob Stp Wk hst0 => ?_
  have tabS : r1.heap.get? P = some { cls := .none, data := .fields tb } := J.hok P _ hTP
  have qP : q ≠ P := fun z => by
    rw [z, tabS] at hqo
    cases hqo
    cases hqd
  have ltP : P < r1.heap.objs.size := Heap.lt_size tabS
  have ltq : q < r1.heap.objs.size := Heap.lt_size hqo
  have tabN : (r1.heap.push ob).get? P = some { cls := .none, data := .fields tb } := Heap.get?_push_of_some _ tabS
  have hdN : PySem.W.CodeHd (r1.heap.push ob) c P :=
    tabB.code.keeps fun b' u' e' => Heap.get?_push_of_some _ (J.bk b' u' e')
  have limN : (r1.heap.push ob).NoLimit := J.nolimit.push ob
  refine ⟨limN, ?_⟩
  -- behind the code object, whichever it is
  have onward : ∀ (cv : Value) (h3 : Heap) (n3 : Nat) (tb' : Array Value), Heap.ExtBut P (r1.heap.push ob) h3 →
      (r1.heap.push ob).objs.size ≤ h3.objs.size → h3.get? P = some { cls := .none, data := .fields tb' } →
      (∃ more, tb' = tb ++ more) → TriplesOk tb'.toList →
      wpAny (model X.prog X.w) X.A (builtinsFor X.env.globals X.env.builtins) (fun bi s4 =>
        ∃ Ia fp wr n₀ Pf St₀ pz F, Value.ref r1.heap.objs.size = .ref Ia ∧
          (∀ A2 : Around, A2.handled = none → Walks X.prog X.w A2 Ia fp wr n₀ Pf St₀) ∧ St₀ 0 s4.heap ∧
          (∀ b' ∈ fp, b' < s4.heap.objs.size) ∧ s4.heap.NoLimit ∧ cStatics ∉ wr ∧
          (∀ hr : Heap, (∀ b' o', s4.heap.get? b' = some o' → hr.get? b' = some o') →
            QuietGen X.prog X.w
              (genEnv scope (cloFrom X.env.cells scope.names []) s4.heap.objs.size cv bi X.env)
              x [] elt (List.range s4.heap.objs.size) wr Pf pz F hr) ∧
          (∀ a' h5 n5 gs, gs.bare = true → s4.heap.objs.size < a' → h5.objs.size = a' + 1 →
            (∀ b' o', s4.heap.get? b' = some o' → h5.get? b' = some o') →
            WalksS X.prog X.w X.A.in4 a' (a' :: s4.heap.objs.size :: List.range s4.heap.objs.size)
              (s4.heap.objs.size :: wr) (GenOnlyQ s4.gens.size) (passing pz n₀ 0).length
              (fun i' y' => ∃ i, (passing pz n₀ 0)[i']? = some i ∧ F i y')
              (GenAt X.prog X.w X.A.in4 a' s4.gens.size s4.heap.objs.size
                (List.range s4.heap.objs.size) wr pz n₀ F) →
            GenAt X.prog X.w X.A.in4 a' s4.gens.size s4.heap.objs.size
              (List.range s4.heap.objs.size) wr pz n₀ F 0
              { s4 with gens := s4.gens.push gs, toks := n5, heap := h5 } →
            Q' (.ref a') { s4 with gens := s4.gens.push gs, toks := n5, heap := h5 })) X.xe
        { r1 with heap := h3, toks := n3 } := by
    intro cv h3 n3 tb' ext sz3 tab3 grew tri3
    obtain ⟨bm, mo, f1, f2, f3, f4, f5, f6, f7, f8⟩ := tabB.bm
    have statP : cStatics ≠ P := fun z => by
      obtain ⟨_, hns, _⟩ := J.nolimit
      obtain ⟨_, _, _, ho, hd, _⟩ := hns
      rw [z, tabS] at ho
      cases ho
      cases hd
    have statL : cStatics < r1.heap.objs.size := by
      obtain ⟨_, hns, _⟩ := J.nolimit
      exact hns.lt
    have szN : (r1.heap.push ob).objs.size = r1.heap.objs.size + 1 := Heap.size_push ..
    have old3 : ∀ b' u', b' ≠ P → r1.heap.get? b' = some u' → h3.get? b' = some u' :=
      fun b' u' ne e' => ext b' u' ne (Heap.get?_push_of_some _ e')
    have cell3 : h3.get? q = some oq := old3 q oq qP hqo
    refine wpAny_builtinsFor (m := X.mg)
      (by rw [J.ok.glob]; exact ((J.mod.glob.keeps J.bk).push ob).extBut ext tabB.gP)
      f1 f2 (old3 _ _ f4 (J.bk _ _ f5)) f6 f7 f8 ?_
    refine ⟨r1.heap.objs.size, [r1.heap.objs.size], [r1.heap.objs.size], a.cps.size, SignAt a, Stp, (fun _ => true),
      (fun i z => ∃ cc, a.cps[i]? = some cc ∧ z = .bool (pb b cc)), rfl, Wk, ?_, ?_, limN.extBut ext statP, ?_, ?_, ?_⟩
    · refine (Wk X.A room.hd).frame _ _ _ hst0 fun b' mem' u' e' => ext b' u' (fun z => ?_) e'
      rcases List.mem_cons.mp mem' with z2 | z2
      · exact Nat.ne_of_lt ltP (z.symm.trans z2)
      · cases z2
    · intro b' mem'
      rcases List.mem_cons.mp mem' with z | z
      · rw [z]
        exact Nat.lt_of_lt_of_le (by rw [szN]; exact Nat.lt_succ_self _) sz3
      · cases z
    · intro mem'
      rcases List.mem_cons.mp mem' with z | z
      · exact Nat.ne_of_lt statL z
      · cases z
    · intro hr hhr
      refine ⟨fun A2 E2 i v' s2 m2 _ _ _ _ _ => ?_, fun A2 E2 i v' s2 m2 _ at_ _ ns2 m2x keep2 => ?_⟩
      · simp only [List.forIn_nil]
        exact wpAny_pure ⟨rfl, GxR.keeps_refl _⟩
      · obtain ⟨cc, tk', hcc, rfl⟩ := at_
        have q2 : s2.heap.get? q = some oq := by
          refine keep2 q (List.mem_range.mpr ?_) ?_ oq (hhr q oq cell3)
          · exact Nat.lt_of_lt_of_le ltq (Nat.le_trans (by rw [szN]; exact Nat.le_succ _) sz3)
          · intro z
            rcases List.mem_cons.mp z with z | z
            · exact Nat.ne_of_lt ltq z
            · cases z
        exact wpAny_mono (el_ b _ A2 E2 cc tk' tkb s2 m2 q rfl (hclo _ _ hq1) ⟨oq, q2, hqd⟩ ns2 m2x)
          (fun z s3 r => ⟨⟨cc, hcc, r.1⟩, r.2⟩) fun _ _ e => e
    · intro g h5 n5 gs bare5 above5 sz5 keep5 W5 gat
      simp only [GxR.passing_true, List.length_range] at W5
      refine fin a b H1 g _ want ⟨_, _, _, _, _, W5.in4_1, gat, ?_, fun s9 mv => ?_⟩
      · intro i' z' sj Qj Ej hz' hQj
        obtain ⟨i, hi, cc, hcc, rfl⟩ := hz'
        obtain ⟨_, ei⟩ := List.getElem?_eq_some_iff.mp hi
        rw [List.getElem_range] at ei
        subst ei
        have at9 : a.cps.toList[i']? = some cc := by rw [Array.getElem?_toList]; exact hcc
        have hQ2 : Qj (GxR.trF (pb b) a.cps.toList i') sj := hQj
        rw [GxR.trF_some at9] at hQ2
        exact wpAny_truthy_bool hQ2
      · obtain ⟨more, em⟩ := grew
        have apart : ∀ b' u', r1.heap.get? b' = some u' → b' ∉ h3.objs.size :: [r1.heap.objs.size] := fun b' u' e' mem' => by
          have lt' := Heap.lt_size e'
          have sz9 : r1.heap.objs.size + 1 ≤ h3.objs.size := szN ▸ sz3
          rcases List.mem_cons.mp mem' with z | z
          · rw [z] at lt'
            exact absurd (Nat.lt_trans lt' (Nat.lt_of_lt_of_le (Nat.lt_succ_self _) sz9)) (Nat.lt_irrefl _)
          · rcases List.mem_cons.mp z with z | z
            · rw [z] at lt'
              exact Nat.lt_irrefl _ lt'
            · cases z
        have J9 := GxR.inv_tab (more := more) (h' := s9.heap) (g' := s9.gens) (d' := s9.drawn) (t' := s9.toks) J hTP
          (fun b' u' ne e' => mv.heap b' u' (apart b' u' e') (keep5 b' u' (old3 b' u' ne e')))
          (by rw [← em]; exact mv.heap P _ (apart P _ tabS) (keep5 P _ tab3)) (AllBare.movedS (J.bare.push bare5) mv)
        rw [GxR.sh_eta r1 s9 mv.os] at J9
        exact ⟨upd H1 P (.tbl (tb ++ more)), ⟨⟨tb ++ more, upd_same, by rw [← em]; exact tri3⟩, fun b' ne => upd_ne ne⟩, J9⟩
  cases seek : codeAmong gpos tb.toList with
  | none =>
    refine wpAny_genexprCodeX code_ (hdN.code tabN htri) (hdN.tab tabN) seek fun c' h' n' ext ge lt hco' _ htab' _ => ?_
    obtain ⟨_, _, _, _, _, _, _, _, _, _, _, _, _, _, _, _, _, _, _, tri', _⟩ := hco'
    exact onward _ h' n' _ ext (Nat.le_trans ge (Nat.le_of_lt lt)) htab'.2 ⟨_, rfl⟩ tri'
  | some cv =>
    refine wpAny_genexprCode_hit code_ (hdN.code tabN htri) seek ?_
    exact onward cv (r1.heap.push ob) r1.toks tb (Heap.ExtBut.refl _ _) (Nat.le_refl _) tabN ⟨#[], by simp⟩ htri

/-- all(elt for x in e), e a text, one captured text -/
def tAllC (P : Addr) (j : Nat) (pb : Str → Nat → Bool) (te : TE) : TE := fun σ H Q =>
  te σ H fun v H1 => ∃ a b : Str, v = .str a ∧ σ[j]? = some (some (.str b)) ∧ GxR.TabG H1 P ∧
    ∀ H2, GxR.Tabbed P H1 H2 → Q (.bl (a.cps.toList.all (pb b))) H2
theorem pe_allC {c P : Addr} {elt iter : Expr} {x y : Str} {px p pos gpos : Pos} {scope : Scope} {pb : Str → Nat → Bool}
    {te : TE} {k j : Nat} (room : Room k X.A) (hg : Gl X "all") (hm : X.mg "all" = none)
    (hb : bootBuiltins "all" = some (.builtin "all")) (tabB : GxR.TabB X.base X.mg c P) (code_ : X.env.code = .ref c)
    (S : GxR.GenS X.env scope x) (it_ : PE X iter te) (el_ : ∀ b, EltC X.prog X.w scope x y elt b (pb b))
    (hj : X.N[j]? = some y) (hcel : X.env.scope.names.lookup y = some .cell)
    (hclo : ∀ cells q, cells.lookup y = some q → (cloFrom cells scope.names []).lookup y = some q)
    (fold_ : ∀ v, genFold iter X.env v = pure v)
    (he : starEach [.GeneratorExp elt [⟨.Name x px, iter, [], 0⟩] scope gpos] X.env =
      (false, eval (.GeneratorExp elt [⟨.Name x px, iter, [], 0⟩] scope gpos) X.env) :: starEach [] X.env := by rfl) :
    PE X (.Call (.Name "all" p) [.GeneratorExp elt [⟨.Name x px, iter, [], 0⟩] scope gpos] [] pos) (tAllC P j pb te) := by
  refine ⟨fun pins s σ H Q I h => ?_⟩
  refine wpAny_Call_Name_kw (ld_blt I hg hm hb ?_)
  refine PyProof.Rows.callWith_builtin1 ?_ he (by rfl)
  rw [he]
  refine (show wpAny _ _ (spliced ((false, eval (.GeneratorExp elt [⟨.Name x px, iter, [], 0⟩] scope gpos) X.env) ::
    backTo pos (starEach [] X.env))) _ _ s from ?_)
  refine Calls.spliced_cons (gen_cap (R := fun a b H1 => ∀ H2, GxR.Tabbed P H1 H2 → Q (.bl (a.cps.toList.all (pb b))) H2)
    room tabB code_ S it_ el_ hj hcel hclo fold_ I h fun a b H1 g s5 hR rd => ?_)
  obtain ⟨fp, wr, G, F, Stg, Wg, hst, htr, back⟩ := rd
  refine Calls.spliced_nil ?_
  refine call_all_walkS (Wg.self 0 _ _ _ hst ⟨g, fp, wr, G, _, F, Stg, _, rfl, Wg, hst, htr, fun s9 mv => ?_⟩)
  obtain ⟨H2, tbd, J⟩ := back s9 mv
  refine ⟨.bl _, H2, J, rfl, ?_⟩
  rw [GxR.all_signs a (pb b)]
  exact hR H2 tbd
end
end LL
namespace LL
open PySem PySem.Spec PyProof.Rows L2
def top (i : Nat) : Stmt := PySem.Challenge.pw_leastlore_k11_words_told.main.body.getD i (.Pass ⟨0, 0, 0, 0⟩)

/-- a def of the top: where it stands and how it is called -/
structure Dn (K : PySem.W.Frag) (mg : Str → Option Value) (x : Str) (st : Stmt) (ps : List Str) where
  f : Addr
  fd : FuncData
  m : mg x = some (.ref f)
  F : Fun K x x st f fd
  b : Binds K fd ps []

theorem pcall {X : Cx} {x : Str} {st : Stmt} {ps : List Str} {sp : Sp} {j k : Nat} {e : Expr} {es : List Expr} {t : TA} {p pos : Pos}
    (D : Dn X.K X.mg x st ps) (G : FnOk X.prog X.w X.K X.mg X.base CX0 j D.f D.fd ps sp) (hr : Room k X.A) (hjk : j ≤ k)
    (hg : Gl X x) (ha : PA X (e :: es) t) (hd : (x == ("__debug__" : Str)) = false := by decide)
    (he : starEach (e :: es) X.env = (false, eval e X.env) :: starEach es X.env := by rfl)
    (hp : (backTo pos (starEach es X.env)).any (·.1) = false := by rfl) :
    PE X (.Call (.Name x p) (e :: es) [] pos) (tCall sp [] E0 t) :=
  pe_call G (hr.mono hjk) hg D.m D.F.kp D.b .nil pass0 ha hd he hp
theorem pcall0 {X : Cx} {x : Str} {st : Stmt} {ps : List Str} {sp : Sp} {j k : Nat} {p pos : Pos}
    (D : Dn X.K X.mg x st ps) (G : FnOk X.prog X.w X.K X.mg X.base CX0 j D.f D.fd ps sp) (hr : Room k X.A) (hjk : j ≤ k)
    (hg : Gl X x) (hd : (x == ("__debug__" : Str)) = false := by decide) :
    PE X (.Call (.Name x p) [] [] pos) (tCall sp [] E0 tNil) :=
  pe_call0 G (hr.mono hjk) hg D.m D.F.kp D.b .nil pass0 hd

/-- what may be asked of: None, a bool, an int, a text, a list, a tuple, a dict -/
inductive Thing (K : PySem.W.Frag) (H : Hp) : V → Prop
  | non : Thing K H .non
  | bl (b : Bool) : Thing K H (.bl b)
  | int (i : Int) : Thing K H (.int i)
  | str (z : Str) : Thing K H (.str z)
  | lst {a : Addr} (h : TyX K H (.ref a) (.type "list")) : Thing K H (.ref a)
  | tup {a : Addr} (h : TyX K H (.ref a) (.type "tuple")) : Thing K H (.ref a)
  | dct {a : Addr} (h : TyX K H (.ref a) (.type "dict")) : Thing K H (.ref a)
def isInt : V → Bool
  | .int _ => true
  | _ => false
def isIntB : V → Bool
  | .int _ => true
  | .bl _ => true
  | _ => false
def isBl : V → Bool
  | .bl _ => true
  | _ => false
def isStr : V → Bool
  | .str _ => true
  | _ => false
/-- isinstance(x, T) for such a thing -/
theorem isi_int {K : PySem.W.Frag} {H : Hp} {x : V} {Q : VK} (h : Thing K H x) (q : Q (.bl (isIntB x)) H) : rIsi K [x, .ty "int"] H Q := by
  cases h with
  | non => exact ⟨_, _, _, _, _, rfl, .ty _, .base .non, kit_ty (r := false) (by decide +kernel), q⟩
  | bl b => exact ⟨_, _, _, _, _, rfl, .ty _, .base (.bl b), kit_ty (r := true) (by decide +kernel), q⟩
  | int i => exact ⟨_, _, _, _, _, rfl, .ty _, .base (.int i), kit_ty (r := true) (by decide +kernel), q⟩
  | str z => exact ⟨_, _, _, _, _, rfl, .ty _, .base (.str z), kit_ty (r := false) (by decide +kernel), q⟩
  | lst h => exact ⟨_, _, _, _, _, rfl, .ty _, h, kit_ty (r := false) (by decide +kernel), q⟩
  | tup h => exact ⟨_, _, _, _, _, rfl, .ty _, h, kit_ty (r := false) (by decide +kernel), q⟩
  | dct h => exact ⟨_, _, _, _, _, rfl, .ty _, h, kit_ty (r := false) (by decide +kernel), q⟩
theorem isi_bool {K : PySem.W.Frag} {H : Hp} {x : V} {Q : VK} (h : Thing K H x) (q : Q (.bl (isBl x)) H) : rIsi K [x, .ty "bool"] H Q := by
  cases h with
  | non => exact ⟨_, _, _, _, _, rfl, .ty _, .base .non, kit_ty (r := false) (by decide +kernel), q⟩
  | bl b => exact ⟨_, _, _, _, _, rfl, .ty _, .base (.bl b), kit_ty (r := true) (by decide +kernel), q⟩
  | int i => exact ⟨_, _, _, _, _, rfl, .ty _, .base (.int i), kit_ty (r := false) (by decide +kernel), q⟩
  | str z => exact ⟨_, _, _, _, _, rfl, .ty _, .base (.str z), kit_ty (r := false) (by decide +kernel), q⟩
  | lst h => exact ⟨_, _, _, _, _, rfl, .ty _, h, kit_ty (r := false) (by decide +kernel), q⟩
  | tup h => exact ⟨_, _, _, _, _, rfl, .ty _, h, kit_ty (r := false) (by decide +kernel), q⟩
  | dct h => exact ⟨_, _, _, _, _, rfl, .ty _, h, kit_ty (r := false) (by decide +kernel), q⟩
theorem isi_str {K : PySem.W.Frag} {H : Hp} {x : V} {Q : VK} (h : Thing K H x) (q : Q (.bl (isStr x)) H) : rIsi K [x, .ty "str"] H Q := by
  cases h with
  | non => exact ⟨_, _, _, _, _, rfl, .ty _, .base .non, kit_ty (r := false) (by decide +kernel), q⟩
  | bl b => exact ⟨_, _, _, _, _, rfl, .ty _, .base (.bl b), kit_ty (r := false) (by decide +kernel), q⟩
  | int i => exact ⟨_, _, _, _, _, rfl, .ty _, .base (.int i), kit_ty (r := false) (by decide +kernel), q⟩
  | str z => exact ⟨_, _, _, _, _, rfl, .ty _, .base (.str z), kit_ty (r := true) (by decide +kernel), q⟩
  | lst h => exact ⟨_, _, _, _, _, rfl, .ty _, h, kit_ty (r := false) (by decide +kernel), q⟩
  | tup h => exact ⟨_, _, _, _, _, rfl, .ty _, h, kit_ty (r := false) (by decide +kernel), q⟩
  | dct h => exact ⟨_, _, _, _, _, rfl, .ty _, h, kit_ty (r := false) (by decide +kernel), q⟩

section
variable {X : Cx}
theorem call_is_int : CallR X (.builtin "isinstance") (fun xs H Q => ∃ x, xs = [x, .ty "int"] ∧ Thing X.K H x ∧ Q (.bl (isIntB x)) H) := by
  intro pins s σ H xs us Q I r ⟨x, e, th, q⟩
  subst e
  exact call_isi pins s σ H _ us Q I r (isi_int th q)
theorem call_is_bool : CallR X (.builtin "isinstance") (fun xs H Q => ∃ x, xs = [x, .ty "bool"] ∧ Thing X.K H x ∧ Q (.bl (isBl x)) H) := by
  intro pins s σ H xs us Q I r ⟨x, e, th, q⟩
  subst e
  exact call_isi pins s σ H _ us Q I r (isi_bool th q)
theorem call_is_str : CallR X (.builtin "isinstance") (fun xs H Q => ∃ x, xs = [x, .ty "str"] ∧ Thing X.K H x ∧ Q (.bl (isStr x)) H) := by
  intro pins s σ H xs us Q I r ⟨x, e, th, q⟩
  subst e
  exact call_isi pins s σ H _ us Q I r (isi_str th q)
end

/-- a def whose code object is known -/
theorem okC {P : Program} {w : World} {K : PySem.W.Frag} {mg : Str → Option Value} {base : Heap} {x : Str} {st : Stmt} {f c : Addr}
    {fd : FuncData} {N ps : List Str} {k : Nat} {sp : Sp} (F : Fun K x x st f fd) (hc : fd.code = .ref c) (S : FnScope N ps (defScope st))
    (len : ∀ vs H Q E, sp vs H Q E → vs.length = ps.length)
    (body : ∀ (A : Around) (outer : List Env) (s : Shared) (H : Hp) (vs : List V) (Q : VK) (E : XK),
      Room k (A.deeper (envOfC x (defScope st) s.heap.objs.size f (.ref c))) → sp vs H Q E →
      ∃ t, PSs (cxOf CX0 P w K mg base N x (defScope st) f (.ref c) A outer s H E).nox (defBody st) t ∧
        t { nx := fun _ H' => Q .non H', rt := Q } (start N vs) H) : FnOk P w K mg base CX0 (k + 1) f fd ps sp := by
  obtain ⟨c1, d1, k1, doc, pm, an, cd, c2, sl, rfl, look, isCode⟩ := F.ex
  have hcd : cd = .ref c := hc
  subst hcd
  exact fn_of look isCode S len fun A outer s H vs Q E room want =>
    let ⟨t, h, q⟩ := body A outer s H vs Q E room want
    ⟨t, h.nox, q⟩

/-! ### the text -/
def ownW : List Str := ["all", "key", "days", "turns", "last", "ends", "now", "both", "either", "but", "let", "bar", "frame", "find", "known", "ask"]
structure Tx (K : PySem.W.Frag) (mg : Str → Option Value) (ow : Addr) (tF tL tN tV : Tok) : Prop where
  b_isinstance : mg "isinstance" = none
  b_int : mg "int" = none
  b_bool : mg "bool" = none
  b_str : mg "str" = none
  b_list : mg "list" = none
  b_all : mg "all" = none
  b_len : mg "len" = none
  b_range : mg "range" = none
  b_max : mg "max" = none
  b_min : mg "min" = none
  b_repr : mg "repr" = none
  gFIGURES_ : mg "FIGURES" = some (.str "0123456789" tF)
  gLETTERS_ : mg "LETTERS" = some (.str "abcdefghijklmnopqrstuvwxyz" tL)
  gMOST_IN_NAME_ : mg "MOST_IN_NAME" = some (.int 8 tN)
  gMOST_IN_VALUE_ : mg "MOST_IN_VALUE" = some (.int 12 tV)
  gOWN_WORDS_ : mg "OWN_WORDS" = some (.ref ow)
  words : ∀ H : Hp, SqT K H ow (ownW.map V.str)

abbrev scIwhole_st : Stmt := top 6
abbrev scIwhole_N : List Str := ["thing"]
theorem scIwhole : FnScope scIwhole_N ["thing"] (defScope scIwhole_st) := ⟨rfl, rfl, rfl, by decide +kernel, rfl, by decide +kernel, by decide +kernel⟩
abbrev scIwithin_st : Stmt := top 7
abbrev scIwithin_N : List Str := ["thing", "low", "high"]
theorem scIwithin : FnScope scIwithin_N ["thing", "low", "high"] (defScope scIwithin_st) := ⟨rfl, rfl, rfl, by decide +kernel, rfl, by decide +kernel, by decide +kernel⟩
abbrev scIwrittenof_st : Stmt := top 8
abbrev scIwrittenof_N : List Str := ["thing", "signs", "most"]
theorem scIwrittenof : FnScope scIwrittenof_N ["thing", "signs", "most"] (defScope scIwrittenof_st) := ⟨rfl, rfl, rfl, by decide +kernel, rfl, by decide +kernel, by decide +kernel⟩
abbrev scIname_st : Stmt := top 9
abbrev scIname_N : List Str := ["thing"]
theorem scIname : FnScope scIname_N ["thing"] (defScope scIname_st) := ⟨rfl, rfl, rfl, by decide +kernel, rfl, by decide +kernel, by decide +kernel⟩
abbrev scIvalue_st : Stmt := top 10
abbrev scIvalue_N : List Str := ["thing"]
theorem scIvalue : FnScope scIvalue_N ["thing"] (defScope scIvalue_st) := ⟨rfl, rfl, rfl, by decide +kernel, rfl, by decide +kernel, by decide +kernel⟩
abbrev scownwords_st : Stmt := top 12
abbrev scownwords_N : List Str := []
theorem scownwords : FnScope scownwords_N [] (defScope scownwords_st) := ⟨rfl, rfl, rfl, by decide +kernel, rfl, by decide +kernel, by decide +kernel⟩

/-- what the defs below stand on -/
structure Defs (K : PySem.W.Frag) (mg : Str → Option Value) where
  is_whole : Dn K mg "is_whole" scIwhole_st ["thing"]
  is_within : Dn K mg "is_within" scIwithin_st ["thing", "low", "high"]
  is_written_of : Dn K mg "is_written_of" scIwrittenof_st ["thing", "signs", "most"]
  is_name : Dn K mg "is_name" scIname_st ["thing"]
  is_value : Dn K mg "is_value" scIvalue_st ["thing"]
  own_words : Dn K mg "own_words" scownwords_st []
section
variable {P : Program} {w : World} {K : PySem.W.Frag} {mg : Str → Option Value} {base : Heap} {ow : Addr} {tF tL tN tV : Tok}

def spWhole (K : PySem.W.Frag) : Sp := fun vs H Q _ => ∃ x, vs = [x] ∧ Thing K H x ∧ Q (.bl (isInt x)) H
theorem ok_whole (D : Defs K mg) (T : Tx K mg ow tF tL tN tV) : FnOk P w K mg base CX0 1 D.is_whole.f D.is_whole.fd ["thing"] (spWhole K) := by
  refine D.is_whole.F.ok scIwhole (fun vs H Q E h => ?_) (fun cdv A outer s H vs Q E hr h => ?_)
  · obtain ⟨x, rfl, _⟩ := h
    rfl
  · obtain ⟨x, rfl, th, k⟩ := h
    refine ⟨_, (pss_one (ps_ret (pe_and (pe_callB call_is_int (by rfl) T.b_isinstance (by decide +kernel) (pa_cons (pv 0) (pa_cons (pe_bltn (v := .ty "int") (u := .type "int") (by rfl) T.b_int (by decide +kernel) rfl) pa_nil))) (pe_one (pe_not (pe_callB call_is_bool (by rfl) T.b_isinstance (by decide +kernel) (pa_cons (pv 0) (pa_cons (pe_bltn (v := .ty "bool") (u := .type "bool") (by rfl) T.b_bool (by decide +kernel) rfl) pa_nil)))))))), ?_⟩
    refine ⟨_, rfl, _, rfl, th, _, rfl, ?_⟩
    cases th with
    | int i => exact iteT ⟨_, rfl, _, rfl, .int i, _, rfl, k⟩
    | bl b => exact iteT ⟨_, rfl, _, rfl, .bl b, _, rfl, k⟩
    | _ => exact iteF k

def within : V → Int → Int → Bool
  | .int i, lo, hi => decide (lo ≤ i) && decide (i ≤ hi)
  | _, _, _ => false
def spWithin (K : PySem.W.Frag) : Sp := fun vs H Q _ => ∃ x lo hi, vs = [x, .int lo, .int hi] ∧ Thing K H x ∧ Q (.bl (within x lo hi)) H
theorem ok_within (D : Defs K mg) (T : Tx K mg ow tF tL tN tV) : FnOk P w K mg base CX0 2 D.is_within.f D.is_within.fd ["thing", "low", "high"] (spWithin K) := by
  have Gis_whole : FnOk P w K mg base CX0 1 D.is_whole.f D.is_whole.fd ["thing"] (spWhole K) := ok_whole D T
  refine D.is_within.F.ok scIwithin (fun vs H Q E h => ?_) (fun cdv A outer s H vs Q E hr h => ?_)
  · obtain ⟨x, lo, hi, rfl, _⟩ := h
    rfl
  · obtain ⟨x, lo, hi, rfl, th, k⟩ := h
    refine ⟨_, (pss_one (ps_ret (pe_and (pcall D.is_whole Gis_whole hr (by decide) (by rfl) (pa_cons (pv 0) pa_nil)) (pe_one (pe_chain op_le op_le (pv 1) (pv 0) (pv 2)))))), ?_⟩
    refine ⟨x, rfl, x, rfl, th, ⟨_, rfl, ?_⟩⟩
    cases th with
    | int i =>
      refine iteT ⟨_, rfl, _, rfl, _, _, rfl, rfl, _, rfl, ?_⟩
      by_cases h1 : lo ≤ i
      · rw [decide_eq_true h1]
        refine iteT ⟨_, rfl, _, _, rfl, rfl, ?_⟩
        have e : within (.int i) lo hi = decide (i ≤ hi) := by simp [within, h1]
        rw [e] at k
        exact k
      · rw [decide_eq_false h1]
        have e : within (.int i) lo hi = false := by simp [within, h1]
        rw [e] at k
        exact iteF k
    | _ => exact iteF k
end
end LL
namespace LL
open PySem PySem.Spec PyProof.Rows L2
def retE : Stmt → Expr
  | .Return (some e) _ => e
  | _ => .Constant .none 0 ⟨0, 0, 0, 0⟩
def genSc : Expr → Scope
  | .Call _ [.GeneratorExp _ _ sc _] _ _ => sc
  | _ => { kind := .function, names := [], isGenerator := false, isCoroutine := false }
abbrev gsc : Scope := genSc (retE ((defBody scIwrittenof_st).getD 1 (.Pass ⟨0, 0, 0, 0⟩)))
theorem gsc_names : gsc.names = [((".0" : Str), NameKind.local), (("sign" : Str), NameKind.local), (("signs" : Str), NameKind.free)] := by
  decide +kernel
theorem gen_ok {env : Env} (h : ∃ c, env.cells.lookup ("signs" : Str) = some c) : GxR.GenS env gsc "sign" := by
  refine ⟨by decide +kernel, by decide +kernel, ?_, by decide +kernel, by decide +kernel, ?_⟩
  · rw [gsc_names]
    decide +kernel
  · rw [gsc_names]
    intro y hy e
    simp only [List.mem_cons, List.not_mem_nil, or_false] at hy
    rcases hy with rfl | rfl | rfl
    · cases e
    · cases e
    · exact h
theorem clo_ok (cells : List (Str × Addr)) (q : Addr) (h : cells.lookup ("signs" : Str) = some q) :
    (cloFrom cells gsc.names []).lookup ("signs" : Str) = some q := by
  rw [gsc_names]
  have e1 : (NameKind.local == NameKind.free) = false := by decide
  have e2 : (NameKind.free == NameKind.free) = true := by decide
  simp only [cloFrom, e1, e2, Bool.false_eq_true, if_false, if_true, h, Option.getD_some]
  rw [List.lookup_cons_self]
/-- which signs it may be written of -/
def allIn (signs z : Str) : Bool := z.cps.toList.all fun c => decide (c ∈ signs.cps.toList)
def writ : V → Str → Int → Bool
  | .str z, signs, most => (decide (1 ≤ (z.length : Int)) && decide ((z.length : Int) ≤ most)) && allIn signs z
  | _, _, _ => false
theorem all_occ (signs z : Str) : (z.cps.toList.all fun c => !(Builtin.Str.occurrences signs ⟨#[c]⟩ 0 signs.length 1).isEmpty) = allIn signs z := by
  unfold allIn
  congr 1
  funext c
  exact PySem.StrLaws.found_one signs c
def short : V → Prop
  | .str z => z.length ≤ sizeLine
  | _ => True
section
variable {P : Program} {w : World} {K : PySem.W.Frag} {mg : Str → Option Value} {base : Heap} {ow c tb : Addr} {tF tL tN tV : Tok}
def spWrit (K : PySem.W.Frag) (tb : Addr) : Sp := fun vs H Q _ => ∃ x signs most, vs = [x, .str signs, .int most] ∧ Thing K H x ∧ short x ∧
  GxR.TabG H tb ∧ ∀ H', GxR.Tabbed tb H H' → Q (.bl (writ x signs most)) H'
theorem ok_writ (D : Defs K mg) (T : Tx K mg ow tF tL tN tV) (hc : D.is_written_of.fd.code = .ref c) (TB : GxR.TabB base mg c tb) :
    FnOk P w K mg base CX0 1 D.is_written_of.f D.is_written_of.fd ["thing", "signs", "most"] (spWrit K tb) := by
  refine okC D.is_written_of.F hc scIwrittenof (fun vs H Q E h => ?_) (fun A outer s H vs Q E hr h => ?_)
  · obtain ⟨x, lo, hi, rfl, _⟩ := h
    rfl
  · obtain ⟨x, signs, most, rfl, th, sh, tab, k⟩ := h
    have GS := gen_ok (env := envOfC "is_written_of" (defScope scIwrittenof_st) s.heap.objs.size D.is_written_of.f (.ref c)) (cell_has (by decide +kernel))
    have hclo := clo_ok
    have hcode : (cxOf CX0 P w K mg base scIwrittenof_N "is_written_of" (defScope scIwrittenof_st) D.is_written_of.f (.ref c) A outer s H E).nox.env.code = .ref c := rfl
    refine ⟨_, (pss_cons (ps_if (PW.pt (pw_or (pt_not (pt_val (pe_callB call_is_str (by rfl) T.b_isinstance (by decide +kernel) (pa_cons (pv 0) (pa_cons (pe_bltn (v := .ty "str") (u := .type "str") (by rfl) T.b_str (by decide +kernel) rfl) pa_nil))))) (pw_or1 (pt_not (pt_chain op_le op_le pe_int (pe_callB call_len_str (by rfl) T.b_len (by decide +kernel) (pa_cons (pv 0) pa_nil)) (pv 2)))))) (pss_one (ps_ret pe_bl)) pss_nil)
        (pss_one (ps_ret (pe_allC (j := 1) hr (by rfl) T.b_all (by decide +kernel) TB hcode GS (pv 0) (fun b => elt_in rfl rfl rfl) rfl rfl hclo (fun _ => rfl))))), ?_⟩
    refine ⟨_, rfl, _, rfl, th, _, rfl, ?_⟩
    have same : GxR.Tabbed tb H H := ⟨tab, fun _ _ => rfl⟩
    cases th with
    | str z =>
      refine iteF ⟨_, rfl, z, rfl, sh, _, _, rfl, rfl, _, rfl, ?_⟩
      by_cases h1 : 1 ≤ (z.length : Int)
      · rw [decide_eq_true h1]
        refine iteT ⟨_, rfl, _, _, rfl, rfl, _, rfl, ?_⟩
        by_cases h2 : (z.length : Int) ≤ most
        · rw [decide_eq_true h2]
          refine iteF ⟨_, rfl, z, signs, rfl, rfl, tab, fun H2 t2 => ?_⟩
          rw [all_occ]
          have e : writ (.str z) signs most = allIn signs z := by simp [writ, h1, h2]
          rw [← e]
          exact k H2 t2
        · rw [decide_eq_false h2]
          have e : writ (.str z) signs most = false := by simp [writ, h2]
          have k := k H same
          rw [e] at k
          exact iteT k
      · rw [decide_eq_false h1]
        have e : writ (.str z) signs most = false := by simp [writ, h1]
        have k := k H same
        rw [e] at k
        exact iteF ⟨_, rfl, iteT k⟩
    | _ => exact iteT (k H same)
end
end LL
namespace LL
open PySem PySem.Spec PyProof.Rows L2 NumText
/-! ### numbers as texts -/
theorem val_lt : ∀ (cs : List Nat) (a : Nat), AllDigits cs → cs.foldl (fun acc c => acc * 10 + (c - 48)) a < (a + 1) * 10 ^ cs.length
  | [], a, _ => by simp
  | c :: r, a, h => by
    have hc := h.head
    have ih := val_lt r (a * 10 + (c - 48)) h.tail
    rw [List.foldl_cons, List.length_cons, Nat.pow_succ]
    have : (a * 10 + (c - 48) + 1) * 10 ^ r.length ≤ (a + 1) * (10 ^ r.length * 10) := by
      rw [Nat.mul_comm (10 ^ r.length) 10, ← Nat.mul_assoc]
      exact Nat.mul_le_mul_right _ (by omega)
    omega
theorem val_ge : ∀ (cs : List Nat) (a : Nat), AllDigits cs → a * 10 ^ cs.length ≤ cs.foldl (fun acc c => acc * 10 + (c - 48)) a
  | [], a, _ => by simp
  | c :: r, a, h => by
    have ih := val_ge r (a * 10 + (c - 48)) h.tail
    rw [List.foldl_cons, List.length_cons, Nat.pow_succ]
    have : a * (10 ^ r.length * 10) ≤ (a * 10 + (c - 48)) * 10 ^ r.length := by
      rw [Nat.mul_comm (10 ^ r.length) 10, ← Nat.mul_assoc]
      exact Nat.mul_le_mul_right _ (by omega)
    omega
theorem num_len (m : Nat) : (Str.ofString (toString ((m : Nat) : Int))).length = (TL.numL m).length := by
  rw [TL.len_tl, TL.tl_num]
/-- a plain number of more figures than m is greater than m -/
theorem longer {cs : List Nat} {m : Nat} (h : AllDigits cs) (h0 : ∀ r, cs = 48 :: r → r = []) (hl : (TL.numL m).length < cs.length) : m < digitsVal cs := by
  have hm : m < 10 ^ (TL.numL m).length := by
    have e := val_lt (TL.numL m) 0 (TL.numL_digits m)
    have e2 : (TL.numL m).foldl (fun acc c => acc * 10 + (c - 48)) 0 = m := TL.numL_val m
    rw [e2] at e
    simpa using e
  have pos : 0 < (TL.numL m).length := List.length_pos_iff.mpr (TL.numL_ne m)
  cases cs with
  | nil => simp at hl
  | cons c r =>
    have hc := h.head
    have c1 : 1 ≤ c - 48 := by
      by_cases e : c = 48
      · subst e
        have := h0 r rfl
        subst this
        simp only [List.length_cons, List.length_nil] at hl
        omega
      · omega
    have g := val_ge r (c - 48) h.tail
    have e3 : digitsVal (c :: r) = r.foldl (fun acc c => acc * 10 + (c - 48)) (c - 48) := by
      show r.foldl _ (0 * 10 + (c - 48)) = _
      rw [Nat.zero_mul, Nat.zero_add]
    rw [e3]
    have hl2 : (TL.numL m).length ≤ r.length := by
      rw [List.length_cons] at hl
      omega
    have p1 : 10 ^ (TL.numL m).length ≤ 10 ^ r.length := Nat.pow_le_pow_right (by decide) hl2
    have p2 : 1 * 10 ^ r.length ≤ (c - 48) * 10 ^ r.length := Nat.mul_le_mul_right _ c1
    rw [Nat.one_mul] at p2
    exact Nat.lt_of_lt_of_le hm (Nat.le_trans p1 (Nat.le_trans p2 g))
/-- the figures -/
def FIG : Str := "0123456789"
theorem fig_mem (c : Nat) : c ∈ FIG.cps.toList ↔ 48 ≤ c ∧ c ≤ 57 := by
  have e : FIG.cps.toList = [48, 49, 50, 51, 52, 53, 54, 55, 56, 57] := by decide +kernel
  rw [e]
  simp only [List.mem_cons, List.not_mem_nil, or_false]
  omega
theorem all_fig {z : Str} : allIn FIG z = true ↔ AllDigits z.cps.toList := by
  unfold allIn
  rw [List.all_eq_true]
  constructor
  · intro h c hc
    have := h c hc
    exact (fig_mem c).mp (of_decide_eq_true this)
  · intro h c hc
    exact decide_eq_true ((fig_mem c).mpr (h c hc))
/-- no nought ahead of others -/
def noLead (z : Str) : Bool := match z.cps.toList with
  | [] => true
  | [_] => true
  | c :: _ :: _ => decide (c ≠ 48)
theorem noLead_iff {z : Str} : noLead z = true ↔ ∀ r, z.cps.toList = 48 :: r → r = [] := by
  unfold noLead
  cases z.cps.toList with
  | nil => simp
  | cons c r =>
    cases r with
    | nil => simp
    | cons d t =>
      simp only [decide_eq_true_eq]
      constructor
      · intro h r e
        cases e
        exact absurd rfl h
      · intro h e
        subst e
        cases h _ rfl
def plainOk (z : Str) (most : Int) : Bool :=
  (allIn FIG z && decide (1 ≤ z.length)) && (noLead z && decide (((digitsVal z.cps.toList : Nat) : Int) ≤ most))
/-- what a text plainly writes, up to a most -/
def plainS (z : Str) (most : Int) : V := if plainOk z most = true then .int ((digitsVal z.cps.toList : Nat) : Int) else .non
def plainV : V → Int → V
  | .str z, most => plainS z most
  | _, _ => .non
theorem plain_no {z : Str} {most : Int} (h : plainOk z most = false) : plainS z most = .non := if_neg (by rw [h]; exact Bool.false_ne_true)
/-- what isn't written of as many figures as the most has is none -/
theorem plain_writ {z : Str} {most : Int} (h0 : 0 ≤ most) (h : writ (.str z) FIG ((Str.ofString (toString most)).length : Int) = false) : plainS z most = .non := by
  refine plain_no ?_
  cases hp : plainOk z most with
  | false => rfl
  | true =>
    unfold plainOk at hp
    simp only [Bool.and_eq_true, decide_eq_true_eq] at hp
    obtain ⟨⟨a, b⟩, c, d⟩ := hp
    obtain ⟨m, rfl⟩ := Int.eq_ofNat_of_zero_le h0
    have hc : z.length ≤ (TL.numL m).length := by
      apply Classical.byContradiction
      intro q
      have hz : z.length = z.cps.toList.length := by rw [Array.length_toList]; rfl
      have l := longer (all_fig.mp a) (noLead_iff.mp c) (m := m) (by rw [← hz]; omega)
      omega
    have h : ((decide (1 ≤ (z.length : Int)) && decide ((z.length : Int) ≤ ((Str.ofString (toString ((m : Nat) : Int))).length : Int))) && allIn FIG z) = false := h
    rw [num_len, a, Bool.and_true, decide_eq_true (show (1 : Int) ≤ (z.length : Int) by omega), Bool.true_and] at h
    have h2 := of_decide_eq_false h
    omega
theorem own_in (z : Str) : inV (.str z) (ownW.map V.str) = decide (z ∈ ownW) := by
  unfold inV
  rw [List.any_map]
  have e : ((fun y => eqV y (.str z)) ∘ V.str) = fun y : Str => y == z := rfl
  rw [e, Bool.eq_iff_iff, List.any_eq_true, decide_eq_true_eq]
  constructor
  · rintro ⟨y, hy, e⟩
    rw [← beq_iff_eq.mp e]
    exact hy
  · exact fun h => ⟨z, h, beq_iff_eq.mpr rfl⟩
end LL
namespace LL
open PySem PySem.Spec PyProof.Rows L2
abbrev scplainnumber_st : Stmt := top 11
abbrev scplainnumber_N : List Str := ["thing", "most", "number"]
theorem scplainnumber : FnScope scplainnumber_N ["thing", "most"] (defScope scplainnumber_st) := ⟨rfl, rfl, rfl, by decide +kernel, rfl, by decide +kernel, by decide +kernel⟩
def LET : Str := "abcdefghijklmnopqrstuvwxyz"
/-- a name, a value -/
def nameOk : V → Bool
  | .str z => writ (.str z) LET 8 && !decide (z ∈ ownW)
  | _ => false
def valOk (x : V) : Bool := writ x (LET ++ FIG) 12
section
variable {P : Program} {w : World} {K : PySem.W.Frag} {mg : Str → Option Value} {base : Heap} {ow c tb : Addr} {tF tL tN tV : Tok}
def spName (K : PySem.W.Frag) (tb : Addr) (g : V → Bool) : Sp := fun vs H Q _ => ∃ x, vs = [x] ∧ Thing K H x ∧ short x ∧
  GxR.TabG H tb ∧ ∀ H', GxR.Tabbed tb H H' → Q (.bl (g x)) H'
theorem ok_name (D : Defs K mg) (T : Tx K mg ow tF tL tN tV) (hc : D.is_written_of.fd.code = .ref c) (TB : GxR.TabB base mg c tb) :
    FnOk P w K mg base CX0 2 D.is_name.f D.is_name.fd ["thing"] (spName K tb nameOk) := by
  have Gis_written_of : FnOk P w K mg base CX0 1 D.is_written_of.f D.is_written_of.fd ["thing", "signs", "most"] (spWrit K tb) := ok_writ D T hc TB
  refine D.is_name.F.ok scIname (fun vs H Q E h => ?_) (fun cdv A outer s H vs Q E hr h => ?_)
  · obtain ⟨x, rfl, _⟩ := h
    rfl
  · obtain ⟨x, rfl, th, sh, tab, k⟩ := h
    refine ⟨_, (pss_one (ps_ret (pe_and (pcall D.is_written_of Gis_written_of hr (by decide) (by rfl) (pa_cons (pv 0) (pa_cons (pe_glob (v := .str LET) (by rfl) T.gLETTERS_ ⟨_, rfl⟩) (pa_cons (pe_glob (v := .int 8) (by rfl) T.gMOST_IN_NAME_ ⟨_, rfl⟩) pa_nil)))) (pe_one (pe_cmpR op_notIn_seq (pv 0) (pe_glob (v := .ref ow) (by rfl) T.gOWN_WORDS_ rfl) (by rfl)))))), ?_⟩
    refine ⟨_, rfl, x, LET, 8, rfl, th, sh, tab, fun H1 t1 => ⟨_, rfl, ?_⟩⟩
    have k := k H1 t1
    cases hw : writ x LET 8 with
    | false =>
      have e : nameOk x = false := by
        cases x with
        | str z => simp [nameOk, hw]
        | _ => rfl
      rw [e] at k
      exact iteF k
    | true =>
      cases x with
      | str z =>
        refine iteT ⟨_, rfl, ow, _, rfl, .inr (T.words H1), rfl, by decide +kernel, ?_⟩
        have e : nameOk (.str z) = !decide (z ∈ ownW) := by simp only [nameOk, hw, Bool.true_and]
        rw [e] at k
        rw [own_in]
        exact k
      | _ => cases hw
theorem ok_value (D : Defs K mg) (T : Tx K mg ow tF tL tN tV) (hc : D.is_written_of.fd.code = .ref c) (TB : GxR.TabB base mg c tb) :
    FnOk P w K mg base CX0 2 D.is_value.f D.is_value.fd ["thing"] (spName K tb valOk) := by
  have Gis_written_of : FnOk P w K mg base CX0 1 D.is_written_of.f D.is_written_of.fd ["thing", "signs", "most"] (spWrit K tb) := ok_writ D T hc TB
  refine D.is_value.F.ok scIvalue (fun vs H Q E h => ?_) (fun cdv A outer s H vs Q E hr h => ?_)
  · obtain ⟨x, rfl, _⟩ := h
    rfl
  · obtain ⟨x, rfl, th, sh, tab, k⟩ := h
    refine ⟨_, (pss_one (ps_ret (pcall D.is_written_of Gis_written_of hr (by decide) (by rfl) (pa_cons (pv 0) (pa_cons (pe_op op_add_str (pe_glob (v := .str LET) (by rfl) T.gLETTERS_ ⟨_, rfl⟩) (pe_glob (v := .str FIG) (by rfl) T.gFIGURES_ ⟨_, rfl⟩)) (pa_cons (pe_glob (v := .int 12) (by rfl) T.gMOST_IN_VALUE_ ⟨_, rfl⟩) pa_nil)))))), ?_⟩
    exact ⟨_, rfl, _, _, rfl, rfl, by decide +kernel, x, LET ++ FIG, 12, rfl, th, sh, tab, k⟩
def spOwn : Sp := fun vs H Q _ => vs = [] ∧ ∀ p, H p = none → Q (.ref p) (upd H p (.lst (ownW.map V.str)))
theorem ok_own (D : Defs K mg) (T : Tx K mg ow tF tL tN tV) : FnOk P w K mg base CX0 1 D.own_words.f D.own_words.fd [] spOwn := by
  refine D.own_words.F.ok scownwords (fun vs H Q E h => ?_) (fun cdv A outer s H vs Q E hr h => ?_)
  · obtain ⟨rfl, _⟩ := h
    rfl
  · obtain ⟨rfl, k⟩ := h
    refine ⟨_, (pss_one (ps_ret (pe_callTy call_list_of (by rfl) T.b_list (by decide +kernel) (pa_cons (pe_glob (v := .ref ow) (by rfl) T.gOWN_WORDS_ rfl) pa_nil)))), ?_⟩
    exact ⟨ow, _, rfl, .inr (T.words H), k⟩
def spPlain (K : PySem.W.Frag) (tb : Addr) : Sp := fun vs H Q _ => ∃ x most, vs = [x, .int most] ∧ Thing K H x ∧ short x ∧ 0 ≤ most ∧ most < 10 ^ 30 ∧
  GxR.TabG H tb ∧ ∀ H', GxR.Tabbed tb H H' → Q (plainV x most) H'
theorem ok_plain (D : Defs K mg) (Dp : Dn K mg "plain_number" scplainnumber_st ["thing", "most"]) (T : Tx K mg ow tF tL tN tV) (hc : D.is_written_of.fd.code = .ref c) (TB : GxR.TabB base mg c tb) :
    FnOk P w K mg base CX0 2 Dp.f Dp.fd ["thing", "most"] (spPlain K tb) := by
  have Gis_written_of : FnOk P w K mg base CX0 1 D.is_written_of.f D.is_written_of.fd ["thing", "signs", "most"] (spWrit K tb) := ok_writ D T hc TB
  refine Dp.F.ok scplainnumber (fun vs H Q E h => ?_) (fun cdv A outer s H vs Q E hr h => ?_)
  · obtain ⟨x, m, rfl, _⟩ := h
    rfl
  · obtain ⟨x, most, rfl, th, sh, h0, h30, tab, k⟩ := h
    obtain ⟨m, rfl⟩ := Int.eq_ofNat_of_zero_le h0
    have m30 : m < 10 ^ 30 := by omega
    have len30 : (TL.numL m).length ≤ 30 := TL.numL_len (by decide) m30
    have lenL : (Str.ofString (toString ((m : Nat) : Int))).length ≤ 30 := by rw [num_len]; exact len30
    refine ⟨_, (pss_cons (ps_if (pt_not (pt_val (pcall D.is_written_of Gis_written_of hr (by decide) (by rfl) (pa_cons (pv 0) (pa_cons (pe_glob (v := .str FIG) (by rfl) T.gFIGURES_ ⟨_, rfl⟩) (pa_cons (pe_callB call_len_str (by rfl) T.b_len (by decide +kernel) (pa_cons (pe_callTy call_str_int (by rfl) T.b_str (by decide +kernel) (pa_cons (pv 1) pa_nil)) pa_nil)) pa_nil)))))) (pss_one (ps_ret pe_non)) pss_nil)
        (pss_cons (ps_if (PW.pt (pw_and (pt_cmpR op_eq (pe_ix ix_str (pv 0) pe_int (fun _ _ => rfl)) pe_str (nomark _)) (pw_and1 (pt_cmpR op_ne (pv 0) pe_str (nomark _))))) (pss_one (ps_ret pe_non)) pss_nil)
        (pss_cons (ps_set (i := 2) scplainnumber.nd rfl (Or.inl rfl) (pe_callTy call_int_str (by rfl) T.b_int (by decide +kernel) (pa_cons (pv 0) pa_nil)))
        (pss_one (ps_ret (pe_ifExp (pt_cmpR op_le (pv 2) (pv 1) (nomark _)) (pv 2) pe_non)))))), ?_⟩
    have hlog : (((m : Nat) : Int)).natAbs.log2 < 1920 := by
      rw [Int.natAbs_natCast]
      by_cases hm : m = 0
      · subst hm
        decide
      · exact Nat.lt_of_lt_of_le ((Nat.log2_lt (k := 100) hm).mpr (Nat.lt_trans m30 (by decide))) (by decide)
    refine ⟨x, rfl, _, rfl, _, rfl, hlog, _, rfl, Nat.le_trans lenL (by decide), x, FIG, _, rfl, th, sh, tab, fun H1 t1 => ⟨_, rfl, ?_⟩⟩
    have k := k H1 t1
    cases hw : writ x FIG ((Str.ofString (toString ((m : Nat) : Int))).length : Int) with
    | false =>
      have e : plainV x m = .non := by
        cases x with
        | str z => exact plain_writ h0 hw
        | _ => rfl
      rw [e] at k
      exact iteT k
    | true =>
      cases x with
      | str z =>
        have hw2 : ((decide (1 ≤ (z.length : Int)) && decide ((z.length : Int) ≤ ((Str.ofString (toString ((m : Nat) : Int))).length : Int))) && allIn FIG z) = true := hw
        simp only [Bool.and_eq_true, decide_eq_true_eq] at hw2
        obtain ⟨⟨z1, zL⟩, zf⟩ := hw2
        have zlen : z.length = z.cps.toList.length := by rw [Array.length_toList]; rfl
        have z30 : z.length ≤ 30 := by omega
        obtain ⟨d, r, hz⟩ : ∃ d r, z.cps.toList = d :: r := by
          cases q : z.cps.toList with
          | nil => rw [q] at zlen; simp at zlen; omega
          | cons d r => exact ⟨d, r, rfl⟩
        have zok : plainOk z m = (noLead z && decide (((NumText.digitsVal z.cps.toList : Nat) : Int) ≤ m)) := by
          unfold plainOk
          rw [zf, decide_eq_true (show 1 ≤ z.length by omega)]
          rfl
        -- behind the two refusals
        have last : noLead z = true → ∃ n : Int, PySem.intText? z = some n ∧ z.length ≤ 640 ∧
            (if decide (n ≤ ((m : Nat) : Int)) = true then Q (.int n) H1 else Q .non H1) := fun nl => by
          refine ⟨_, PySem.intText_digits (all_fig.mp zf) (by rw [hz]; simp) (by omega), by omega, ?_⟩
          have k : Q (if plainOk z m = true then .int ((NumText.digitsVal z.cps.toList : Nat) : Int) else .non) H1 := k
          rw [zok, nl, Bool.true_and] at k
          refine ite2 (fun y => ?_) (fun y => ?_)
          · rw [if_pos y] at k
            exact k
          · rw [if_neg y] at k
            exact k
        refine iteF ⟨_, rfl, z, 0, d, rfl, rfl, sh, ?_, rfl, _, rfl, ?_⟩
        · rw [hz]
          exact atI_nat (j := 0) rfl
        have d0 : decide (V.str ⟨#[d]⟩ = V.str "0") = decide (d = 48) := by
          rw [decide_eq_decide]
          constructor
          · intro q
            injection q with q
            have q2 := congrArg (fun s : Str => s.cps.toList) q
            have e0 : ("0" : Str).cps.toList = [48] := by decide +kernel
            simp only [e0] at q2
            injection q2
          · intro q
            subst q
            exact congrArg V.str (by decide +kernel)
        rw [d0]
        by_cases hd : d = 48
        · rw [decide_eq_true hd]
          refine iteT ⟨_, rfl, rfl, _, rfl, ?_⟩
          by_cases h0' : z = "0"
          · rw [decide_eq_true (congrArg V.str h0')]
            refine iteF ?_
            have nl : noLead z = true := by rw [h0']; decide +kernel
            obtain ⟨n, e1, e2, e3⟩ := last nl
            refine ⟨_, rfl, z, n, rfl, e1, e2, _, rfl, _, rfl, _, _, rfl, rfl, _, rfl, ?_⟩
            exact ite2 (fun y => ⟨_, rfl, by rw [if_pos y] at e3; exact e3⟩) (fun y => by rw [if_neg y] at e3; exact e3)
          · rw [decide_eq_false (fun q => h0' (V.str.inj q))]
            have nl : noLead z = false := by
              cases q : noLead z with
              | false => rfl
              | true =>
                have e := noLead_iff.mp q r (by rw [hz, hd])
                subst e
                exfalso
                apply h0'
                have e0 : ("0" : Str).cps.toList = [48] := by decide +kernel
                have e1 : z.cps.toList = ("0" : Str).cps.toList := by rw [hz, hd, e0]
                have e2 : z.cps = ("0" : Str).cps := Array.toList_inj.mp e1
                cases z
                exact congrArg Str.mk e2
            refine iteT ?_
            have k : Q (if plainOk z m = true then .int ((NumText.digitsVal z.cps.toList : Nat) : Int) else .non) H1 := k
            rw [zok, nl, Bool.false_and, if_neg Bool.false_ne_true] at k
            exact k
        · rw [decide_eq_false hd]
          have nl : noLead z = true := noLead_iff.mpr fun r' q => by
            rw [hz] at q
            injection q with q1 _
            exact absurd q1 hd
          obtain ⟨n, e1, e2, e3⟩ := last nl
          refine iteF (iteF ⟨_, rfl, z, n, rfl, e1, e2, _, rfl, _, rfl, _, _, rfl, rfl, _, rfl, ?_⟩)
          exact ite2 (fun y => ⟨_, rfl, by rw [if_pos y] at e3; exact e3⟩) (fun y => by rw [if_neg y] at e3; exact e3)
      | _ => cases hw
end
end LL
namespace LL
open PySem PySem.Spec PyProof.Rows L2
abbrev scLcellat_st : Stmt := top 14
abbrev scLcellat_N : List Str := ["_law_script", "_law_k"]
theorem scLcellat : FnScope scLcellat_N ["_law_script", "_law_k"] (defScope scLcellat_st) := ⟨rfl, rfl, rfl, by decide +kernel, rfl, by decide +kernel, by decide +kernel⟩
abbrev scLbox_st : Stmt := top 15
abbrev scLbox_N : List Str := ["_law_cell"]
theorem scLbox : FnScope scLbox_N ["_law_cell"] (defScope scLbox_st) := ⟨rfl, rfl, rfl, by decide +kernel, rfl, by decide +kernel, by decide +kernel⟩
abbrev scLtake_st : Stmt := top 16
abbrev scLtake_N : List Str := ["_law_box_here", "_law_many", "_law_number"]
theorem scLtake : FnScope scLtake_N ["_law_box_here", "_law_many"] (defScope scLtake_st) := ⟨rfl, rfl, rfl, by decide +kernel, rfl, by decide +kernel, by decide +kernel⟩
abbrev scLtext_st : Stmt := top 17
abbrev scLtext_N : List Str := ["_law_box_here", "_law_signs", "_law_more", "_law_kind", "_law_text_here", "_law_k"]
theorem scLtext : FnScope scLtext_N ["_law_box_here"] (defScope scLtext_st) := ⟨rfl, rfl, rfl, by decide +kernel, rfl, by decide +kernel, by decide +kernel⟩
abbrev scLown_st : Stmt := top 18
abbrev scLown_N : List Str := ["_law_words"]
theorem scLown : FnScope scLown_N [] (defScope scLown_st) := ⟨rfl, rfl, rfl, by decide +kernel, rfl, by decide +kernel, by decide +kernel⟩
abbrev scLsame_st : Stmt := top 22
abbrev scLsame_N : List Str := ["_law_found", "_law_due"]
theorem scLsame : FnScope scLsame_N ["_law_found", "_law_due"] (defScope scLsame_st) := ⟨rfl, rfl, rfl, by decide +kernel, rfl, by decide +kernel, by decide +kernel⟩
/-- a law's box: what is left of the cell, its rest, a count -/
def BoxO (o : HO) : Prop := ∃ x b c : Int, o = .lst [.int x, .int b, .int c] ∧ 0 ≤ x ∧ 0 ≤ b ∧ b < 4294967296
/-- the box at a may have changed, the rest is kept -/
structure Kept (a : Addr) (H H' : Hp) : Prop where
  box : ∃ o, H' a = some o ∧ BoxO o
  old : ∀ b o, b ≠ a → H b = some o → H' b = some o
theorem Kept.upd {a : Addr} {H : Hp} {o : HO} (h : BoxO o) : Kept a H (upd H a o) := ⟨⟨o, upd_same, h⟩, fun b _ n e => by rw [upd_ne n]; exact e⟩
theorem Kept.trans {a : Addr} {H H1 H2 : Hp} (x : Kept a H H1) (y : Kept a H1 H2) : Kept a H H2 := ⟨y.box, fun b o n e => y.old b o n (x.old b o n e)⟩
theorem Kept.refl {a : Addr} {H : Hp} (h : ∃ o, H a = some o ∧ BoxO o) : Kept a H H := ⟨h, fun _ _ _ e => e⟩
/-- a new object more -/
theorem Kept.new {a p : Addr} {H H1 : Hp} {u : HO} (x : Kept a H H1) (hp : H1 p = none) : Kept a H (L2.upd H1 p u) := by
  obtain ⟨⟨o, e, b⟩, old⟩ := x
  exact ⟨⟨o, by rw [upd_ne (ne_of_none e hp)]; exact e, b⟩, fun c v n q => by rw [upd_ne (ne_of_none (old c v n q) hp)]; exact old c v n q⟩
structure Laws1 (K : PySem.W.Frag) (mg : Str → Option Value) where
  _law_cell_at : Dn K mg "_law_cell_at" scLcellat_st ["_law_script", "_law_k"]
  _law_box : Dn K mg "_law_box" scLbox_st ["_law_cell"]
  _law_take : Dn K mg "_law_take" scLtake_st ["_law_box_here", "_law_many"]
  _law_text : Dn K mg "_law_text" scLtext_st ["_law_box_here"]
  _law_own : Dn K mg "_law_own" scLown_st []
  _law_same : Dn K mg "_law_same" scLsame_st ["_law_found", "_law_due"]
section
variable {P : Program} {w : World} {K : PySem.W.Frag} {mg : Str → Option Value} {base : Heap} {ow c tb : Addr} {tF tL tN tV : Tok}
def spCell (K : PySem.W.Frag) : Sp := fun vs H Q _ => ∃ (a : Addr) (k : Nat) (ns : List Int), vs = [.ref a, .int k] ∧ SqL K H a (ns.map V.int) ∧ ∀ i : Int, Q (.int i) H
theorem ok_cell (D : Laws1 K mg) (T : Tx K mg ow tF tL tN tV) : FnOk P w K mg base CX0 1 D._law_cell_at.f D._law_cell_at.fd ["_law_script", "_law_k"] (spCell K) := by
  refine D._law_cell_at.F.ok scLcellat (fun vs H Q E h => ?_) (fun cdv A outer s H vs Q E hr h => ?_)
  · obtain ⟨a, k, ns, rfl, _⟩ := h
    rfl
  · obtain ⟨a, j, ns, rfl, hS, k⟩ := h
    refine ⟨_, (pss_cons (ps_if (pt_cmpR op_lt (pv 1) (pe_callB call_len_seq (by rfl) T.b_len (by decide +kernel) (pa_cons (pv 0) pa_nil)) (nomark _)) (pss_one (ps_ret (pe_ix ix_list (pv 0) (pv 1) (fun _ _ => rfl)))) pss_nil)
        (pss_one (ps_ret (pe_op op_add (pe_op op_mul pe_int (pv 1)) pe_int)))), ?_⟩
    refine ⟨_, rfl, _, rfl, a, _, rfl, .inl hS, _, _, rfl, rfl, _, rfl, ?_⟩
    refine ite2 (fun y => ?_) (fun _ => ?_)
    · have hj : j < ns.length := by
        have := of_decide_eq_true y
        rw [List.length_map] at this
        omega
      refine ⟨_, rfl, _, rfl, a, _, _, _, rfl, rfl, hS, atI_nat (v := .int ns[j]) ?_, k _⟩
      rw [List.getElem?_map, List.getElem?_eq_getElem hj]
      rfl
    · exact ⟨_, rfl, _, _, rfl, rfl, .inl ⟨by decide, by decide⟩, _, _, rfl, rfl, k _⟩
def spBox : Sp := fun vs H Q _ => ∃ i : Int, vs = [.int i] ∧ ∀ p o, H p = none → BoxO o → Q (.ref p) (upd H p o)
theorem ok_box (D : Laws1 K mg) (T : Tx K mg ow tF tL tN tV) : FnOk P w K mg base CX0 1 D._law_box.f D._law_box.fd ["_law_cell"] spBox := by
  refine D._law_box.F.ok scLbox (fun vs H Q E h => ?_) (fun cdv A outer s H vs Q E hr h => ?_)
  · obtain ⟨i, rfl, _⟩ := h
    rfl
  · obtain ⟨i, rfl, k⟩ := h
    have m0 : 0 ≤ i % 2147483629 := Int.emod_nonneg _ (by decide)
    have m1 : i % 2147483629 < 2147483629 := Int.emod_lt_of_pos _ (by decide)
    refine ⟨_, (pss_cons (ps_if (pt_cmpR op_ge (pv 0) (pe_op op_pow pe_int pe_int) (nomark _)) (pss_one (ps_ret (pe_lst (pa_cons (pv 0) (pa_cons (pe_op op_mod (pv 0) pe_int) (pa_cons pe_int pa_nil)))))) pss_nil)
        (pss_one (ps_ret (pe_lst (pa_cons pe_int (pa_cons (pe_op op_mod (pv 0) pe_int) (pa_cons pe_int pa_nil))))))), ?_⟩
    refine ⟨_, rfl, _, _, rfl, rfl, ⟨by decide, by decide, by decide⟩, _, _, rfl, rfl, _, rfl, ?_⟩
    refine ite2 (fun y => ?_) (fun _ => ?_)
    · have y1 := of_decide_eq_true y
      have y0 : 0 ≤ i := Int.le_trans (by decide) y1
      exact ⟨_, rfl, _, rfl, _, _, rfl, rfl, (by show (0 : Int) < 2147483629; decide), (by show 3 ≤ sizeLine; decide), fun p hp => k p _ hp ⟨i, _, 0, rfl, y0, m0, by omega⟩⟩
    · exact ⟨_, rfl, _, _, rfl, rfl, (by show (0 : Int) < 2147483629; decide), (by show 3 ≤ sizeLine; decide), fun p hp => k p _ hp ⟨0, _, 0, rfl, Int.le_refl _, m0, by omega⟩⟩
def spTake : Sp := fun vs H Q _ => ∃ (a : Addr) (o : HO) (m : Int), vs = [.ref a, .int m] ∧ H a = some o ∧ BoxO o ∧ 0 < m ∧ m < 1073741824 ∧
  ∀ r o', 0 ≤ r → r < m → BoxO o' → Q (.int r) (upd H a o')
theorem at0 (x y z : V) : atI [x, y, z] 0 = some x := atI_nat (j := 0) rfl
theorem at1 (x y z : V) : atI [x, y, z] 1 = some y := atI_nat (j := 1) rfl
theorem at2 (x y z : V) : atI [x, y, z] 2 = some z := atI_nat (j := 2) rfl
theorem ok_take (D : Laws1 K mg) (T : Tx K mg ow tF tL tN tV) : FnOk P w K mg base CX0 1 D._law_take.f D._law_take.fd ["_law_box_here", "_law_many"] spTake := by
  refine D._law_take.F.ok scLtake (fun vs H Q E h => ?_) (fun cdv A outer s H vs Q E hr h => ?_)
  · obtain ⟨a, o, m, rfl, _⟩ := h
    rfl
  · obtain ⟨a, o, m, rfl, hb, ⟨x, b, n, rfl, x0, b0, b1⟩, m0, m1, k⟩ := h
    have hS : SqL K H a [.int x, .int b, .int n] := SqL.of hb
    refine ⟨_, (pss_cons (ps_if (pt_cmpR op_gt (pe_ix ix_list (pv 0) pe_int (fun _ _ => rfl)) pe_int (nomark _)) (pss_cons (ps_set (i := 2) scLtake.nd rfl (Or.inl rfl) (pe_op op_mod (pe_ix ix_list (pv 0) pe_int (fun _ _ => rfl)) (pv 1)))
        (pss_cons (ps_asg (pe_op op_fdiv (pe_ix ix_list (pv 0) pe_int (fun _ _ => rfl)) (pv 1)) (pg_sub (pv 0) pe_int set_list))
        (pss_one (ps_ret (pv 2))))) pss_nil)
        (pss_cons (ps_asg (pe_op op_add (pe_ix ix_list (pv 0) pe_int (fun _ _ => rfl)) pe_int) (pg_sub (pv 0) pe_int set_list))
        (pss_cons (ps_set (i := 2) scLtake.nd rfl (Or.inl rfl) (pe_op op_mod (pe_op op_add (pe_op op_add (pe_op op_mul (pe_ix ix_list (pv 0) pe_int (fun _ _ => rfl)) pe_int) (pe_op op_mul pe_int (pe_ix ix_list (pv 0) pe_int (fun _ _ => rfl)))) pe_int) pe_int))
        (pss_cons (ps_set (i := 2) scLtake.nd rfl (Or.inl rfl) (pe_op op_mod (pe_op op_add (pe_op op_add (pe_op op_mul (pv 2) (pv 2)) (pe_op op_mul pe_int (pe_ix ix_list (pv 0) pe_int (fun _ _ => rfl)))) pe_int) pe_int))
        (pss_one (ps_ret (pe_op op_mod (pe_op op_mod (pe_op op_mul (pv 2) (pv 2)) pe_int) (pv 1)))))))), ?_⟩
    refine ⟨_, rfl, a, _, _, _, rfl, rfl, hS, at0 _ _ _, _, _, rfl, rfl, _, rfl, ?_⟩
    refine ite2 (fun _ => ?_) (fun _ => ?_)
    · refine ⟨_, rfl, a, _, _, _, rfl, rfl, hS, at0 _ _ _, _, rfl, _, _, rfl, rfl, m0, ?_⟩
      refine ⟨_, rfl, a, _, _, _, rfl, rfl, hS, at0 _ _ _, _, rfl, _, _, rfl, rfl, ⟨m0, m1⟩, ?_⟩
      refine ⟨_, rfl, a, _, _, 0, rfl, rfl, hb, rfl, ?_⟩
      exact ⟨_, rfl, k _ _ (Int.emod_nonneg _ (by omega)) (Int.emod_lt_of_pos _ m0) ⟨_, _, _, rfl, Int.ediv_nonneg x0 (by omega), b0, b1⟩⟩
    · refine ⟨_, rfl, a, _, _, _, rfl, rfl, hS, at2 _ _ _, _, _, rfl, rfl, ?_⟩
      refine ⟨_, rfl, a, _, _, 2, rfl, rfl, hb, rfl, ?_⟩
      have hb2 : (upd H a (.lst [.int x, .int b, .int (n + 1)])) a = some (.lst [.int x, .int b, .int (n + 1)]) := upd_same
      have hS2 : SqL K (upd H a (.lst [.int x, .int b, .int (n + 1)])) a [.int x, .int b, .int (n + 1)] := SqL.of hb2
      refine ⟨_, rfl, a, _, _, _, rfl, rfl, hS2, at1 _ _ _, _, _, rfl, rfl, .inr ⟨by decide, by decide⟩, ?_⟩
      refine ⟨_, rfl, a, _, _, _, rfl, rfl, hS2, at2 _ _ _, _, _, rfl, rfl, .inl ⟨by decide, by decide⟩, _, _, rfl, rfl, _, _, rfl, rfl, _, _, rfl, rfl, (by show (0 : Int) < 2147483647; decide), ?_⟩
      generalize hN : (b * 48271 + 7919 * (n + 1) + 101) % 2147483647 = N
      have N0 : 0 ≤ N := by rw [← hN]; exact Int.emod_nonneg _ (by decide)
      have N1 : N < 2147483647 := by rw [← hN]; exact Int.emod_lt_of_pos _ (by decide)
      refine ⟨_, rfl, _, rfl, _, _, rfl, rfl, .inl ⟨by omega, by omega⟩, _, rfl, a, _, _, _, rfl, rfl, hS2, at2 _ _ _, _, _, rfl, rfl, .inl ⟨by decide, by decide⟩, _, _, rfl, rfl, _, _, rfl, rfl, _, _, rfl, rfl, (by show (0 : Int) < 2147483629; decide), ?_⟩
      generalize hM : (N * N + 104729 * (n + 1) + 7) % 2147483629 = M
      have M0 : 0 ≤ M := by rw [← hM]; exact Int.emod_nonneg _ (by decide)
      have M1 : M < 2147483629 := by rw [← hM]; exact Int.emod_lt_of_pos _ (by decide)
      refine ⟨_, rfl, _, rfl, _, _, rfl, rfl, .inl ⟨by omega, by omega⟩, _, _, rfl, rfl, (by show (0 : Int) < 2147483587; decide), _, rfl, _, _, rfl, rfl, m0, ?_⟩
      exact k _ _ (Int.emod_nonneg _ (by omega)) (Int.emod_lt_of_pos _ m0) ⟨_, _, _, rfl, x0, b0, b1⟩
def WORDS : Str := "all key days turns last ends now both either but let bar frame find known ask"
theorem own_split : Txt.split WORDS " " = ownW := by decide +kernel
theorem ok_lown (D : Laws1 K mg) (T : Tx K mg ow tF tL tN tV) : FnOk P w K mg base CX0 1 D._law_own.f D._law_own.fd [] spOwn := by
  refine D._law_own.F.ok scLown (fun vs H Q E h => ?_) (fun cdv A outer s H vs Q E hr h => ?_)
  · obtain ⟨rfl, _⟩ := h
    rfl
  · obtain ⟨rfl, k⟩ := h
    refine ⟨_, (pss_cons (ps_set (i := 0) scLown.nd rfl (Or.inl rfl) pe_str)
        (pss_one (ps_ret (pe_split (pv 0) pe_str)))), ?_⟩
    refine ⟨_, rfl, ⟨_, rfl⟩, WORDS, " ", rfl, rfl, by decide +kernel, by decide +kernel, ?_⟩
    rw [own_split]
    exact k
def spSame (K : PySem.W.Frag) : Sp := fun vs H Q _ => ∃ b c : Bool, vs = [.bl b, .bl c] ∧ Q (.bl (decide (b = c))) H
theorem ok_same (D : Laws1 K mg) (T : Tx K mg ow tF tL tN tV) : FnOk P w K mg base CX0 1 D._law_same.f D._law_same.fd ["_law_found", "_law_due"] (spSame K) := by
  refine D._law_same.F.ok scLsame (fun vs H Q E h => ?_) (fun cdv A outer s H vs Q E hr h => ?_)
  · obtain ⟨b, d, rfl, _⟩ := h
    rfl
  · obtain ⟨b, d, rfl, k⟩ := h
    refine ⟨_, (pss_one (ps_ret (pe_and (pe_callB call_is_bool (by rfl) T.b_isinstance (by decide +kernel) (pa_cons (pv 0) (pa_cons (pe_bltn (v := .ty "bool") (u := .type "bool") (by rfl) T.b_bool (by decide +kernel) rfl) pa_nil))) (pe_one (pe_cmpR op_eq (pv 0) (pv 1) (nomark _)))))), ?_⟩
    refine ⟨_, rfl, _, rfl, .bl b, _, rfl, iteT ⟨_, rfl, _, rfl, rfl, ?_⟩⟩
    have e : decide (V.bl b = V.bl d) = decide (b = d) := by
      rw [decide_eq_decide]
      exact ⟨V.bl.inj, congrArg V.bl⟩
    rw [e]
    exact k
end
end LL
namespace LL
open PySem PySem.Spec PyProof.Rows L2
abbrev scLnamedue_st : Stmt := top 19
abbrev scLnamedue_N : List Str := ["_law_text_here", "_law_sign"]
theorem scLnamedue : FnScope scLnamedue_N ["_law_text_here"] (defScope scLnamedue_st) := ⟨rfl, rfl, rfl, by decide +kernel, rfl, by decide +kernel, by decide +kernel⟩
abbrev scLvaluedue_st : Stmt := top 20
abbrev scLvaluedue_N : List Str := ["_law_text_here", "_law_sign"]
theorem scLvaluedue : FnScope scLvaluedue_N ["_law_text_here"] (defScope scLvaluedue_st) := ⟨rfl, rfl, rfl, by decide +kernel, rfl, by decide +kernel, by decide +kernel⟩
abbrev scLnumberdue_st : Stmt := top 21
abbrev scLnumberdue_N : List Str := ["_law_text_here", "_law_most", "_law_sign", "_law_number"]
theorem scLnumberdue : FnScope scLnumberdue_N ["_law_text_here", "_law_most"] (defScope scLnumberdue_st) := ⟨rfl, rfl, rfl, by decide +kernel, rfl, by decide +kernel, by decide +kernel⟩
structure Laws2 (K : PySem.W.Frag) (mg : Str → Option Value) where
  _law_name_due : Dn K mg "_law_name_due" scLnamedue_st ["_law_text_here"]
  _law_value_due : Dn K mg "_law_value_due" scLvaluedue_st ["_law_text_here"]
  _law_number_due : Dn K mg "_law_number_due" scLnumberdue_st ["_law_text_here", "_law_most"]
/-! ### lists of texts -/
def sg (c : Nat) : Str := ⟨#[c]⟩
def pds (ws : List Str) : List PyData := ws.map PyData.str
theorem dp_strs {K : PySem.W.Frag} {H : Hp} : ∀ ws : List Str, DpAll K H (ws.map V.str) (pds ws)
  | [] => .nil
  | x :: r => .cons (.str x) (dp_strs r)
theorem can_strs : ∀ ws : List Str, (∀ x ∈ ws, PyData.strOk x = true) → PyData.canLayAll0 (pds ws) = true
  | [], _ => rfl
  | x :: r, h => by
    show (PyData.canLay0 (.str x) && PyData.canLayAll0 (pds r)) = true
    rw [can_strs r fun y hy => h y (List.mem_cons_of_mem _ hy), Bool.and_true]
    exact h x List.mem_cons_self
theorem dep_strs : ∀ ws : List Str, PyData.depthAll (pds ws) ≤ 1
  | [] => by decide
  | x :: r => by
    show max (PyData.depth (.str x)) (PyData.depthAll (pds r)) ≤ 1
    have := dep_strs r
    have e : PyData.depth (.str x) ≤ 1 := by simp [PyData.depth]
    omega
theorem shaped_strs (ws : List Str) (h : ∀ x ∈ ws, PyData.strOk x = true) : SeqAt.shaped (.list (pds ws)) = true := by
  unfold SeqAt.shaped
  rw [Bool.and_eq_true]
  refine ⟨can_strs ws h, decide_eq_true ?_⟩
  show PyData.depthAll (pds ws) + 1 ≤ 64
  have := dep_strs ws
  omega
theorem eqv_strs : ∀ ws us : List Str, PyData.eqvAll (pds ws) (pds us) = decide (ws = us)
  | [], [] => rfl
  | [], _ :: _ => rfl
  | _ :: _, [] => rfl
  | x :: r, y :: t => by
    show (PyData.eqv (.str x) (.str y) && PyData.eqvAll (pds r) (pds t)) = _
    rw [eqv_strs r t, Bool.eq_iff_iff, Bool.and_eq_true, decide_eq_true_eq, decide_eq_true_eq]
    constructor
    · rintro ⟨a, b⟩
      have a' : (x == y) = true := a
      rw [beq_iff_eq.mp a', b]
    · intro e
      injection e with e1 e2
      exact ⟨show (x == y) = true from beq_iff_eq.mpr e1, e2⟩
theorem ok_own_words : ∀ x ∈ ownW, PyData.strOk x = true := by decide +kernel
def asc (z : Str) : Prop := ∀ c ∈ z.cps.toList, c < 128
theorem sg_ok {c : Nat} (h : c < 128) : PyData.strOk (sg c) = true := by
  have : ∀ c : Nat, c < 128 → PyData.strOk (sg c) = true := by decide +kernel
  exact this c h
/-! ### signs in order -/
theorem lt_one (a b : Nat) : decide (([a] : List Nat) < [b]) = decide (a < b) := by
  rw [decide_eq_decide]
  constructor
  · intro h
    cases h with
    | rel h => exact h
    | cons h => cases h
  · exact fun h => List.Lex.rel h
/-- 97 .. 122, 48 .. 57 -/
def lo (c : Nat) : Bool := decide (97 ≤ c) && decide (c ≤ 122)
def fi (c : Nat) : Bool := decide (48 ≤ c) && decide (c ≤ 57)
theorem let_mem (c : Nat) : decide (c ∈ LET.cps.toList) = lo c := by
  have e : LET.cps.toList = (List.range 26).map (97 + ·) := by decide +kernel
  rw [e, Bool.eq_iff_iff, decide_eq_true_eq, lo, Bool.and_eq_true, decide_eq_true_eq, decide_eq_true_eq]
  simp only [List.mem_map, List.mem_range]
  constructor
  · rintro ⟨a, b, rfl⟩
    omega
  · rintro ⟨a, b⟩
    exact ⟨c - 97, by omega, by omega⟩
theorem fig_memb (c : Nat) : decide (c ∈ FIG.cps.toList) = fi c := by
  rw [Bool.eq_iff_iff, decide_eq_true_eq, fi, Bool.and_eq_true, decide_eq_true_eq, decide_eq_true_eq]
  exact fig_mem c
/-- the signs of z that a test refuses, as a list of texts -/
def bad (p : Nat → Bool) (cs : List Nat) : List Str := (cs.filter fun c => !p c).map sg
theorem bad_nil (p : Nat → Bool) (cs : List Nat) : decide (bad p cs = []) = cs.all p := by
  unfold bad
  rw [Bool.eq_iff_iff, decide_eq_true_eq, List.map_eq_nil_iff, List.filter_eq_nil_iff, List.all_eq_true]
  constructor
  · intro h c hc
    have := h c hc
    cases q : p c with
    | true => rfl
    | false => rw [q] at this; exact absurd rfl this
  · intro h c hc
    rw [h c hc]
    decide
theorem bad_snoc (p : Nat → Bool) (cs : List Nat) (c : Nat) : bad p (cs ++ [c]) = bad p cs ++ (if p c = true then [] else [sg c]) := by
  unfold bad
  rw [List.filter_append, List.map_append]
  congr 1
  cases q : p c <;> simp [q]
theorem take_succ_at {cs : List Nat} {i c : Nat} (h : cs[i]? = some c) : cs.take (i + 1) = cs.take i ++ [c] := by
  rw [List.take_add_one, h]
  rfl
theorem bad_len (p : Nat → Bool) (cs : List Nat) : (bad p cs).length ≤ cs.length := by
  unfold bad
  rw [List.length_map]
  exact List.length_filter_le _ _
theorem bad_ok {p : Nat → Bool} {cs : List Nat} (h : ∀ c ∈ cs, c < 128) : ∀ x ∈ bad p cs, PyData.strOk x = true := by
  intro x hx
  obtain ⟨c, hc, rfl⟩ := List.mem_map.mp hx
  exact sg_ok (h c (List.mem_filter.mp hc).1)
theorem ltA (d : Nat) : decide ((⟨#[d]⟩ : Str).cps.toList < ("a" : Str).cps.toList) = decide (d < 97) := lt_one d 97
theorem ltZ (d : Nat) : decide (("z" : Str).cps.toList < (⟨#[d]⟩ : Str).cps.toList) = decide (122 < d) := lt_one 122 d
theorem lt0 (d : Nat) : decide ((⟨#[d]⟩ : Str).cps.toList < ("0" : Str).cps.toList) = decide (d < 48) := lt_one d 48
theorem lt9 (d : Nat) : decide (("9" : Str).cps.toList < (⟨#[d]⟩ : Str).cps.toList) = decide (57 < d) := lt_one 57 d
def bL (p : Nat → Bool) (z : Str) (i : Nat) : HO := .lst ((bad p (z.cps.toList.take i)).map V.str)
theorem bL_no {p : Nat → Bool} {z : Str} {i d : Nat} {G : Hp} {D : Addr} (h : z.cps.toList[i]? = some d) (hp : p d = true) :
    upd G D (bL p z i) = upd G D (bL p z (i + 1)) := by
  unfold bL
  rw [take_succ_at h, bad_snoc, if_pos hp, List.append_nil]
theorem bL_yes {p : Nat → Bool} {z : Str} {i d : Nat} {G : Hp} {D : Addr} (h : z.cps.toList[i]? = some d) (hp : p d = false) :
    upd (upd G D (bL p z i)) D (.lst ((bad p (z.cps.toList.take i)).map V.str ++ [.str ⟨#[d]⟩])) = upd G D (bL p z (i + 1)) := by
  unfold bL
  rw [upd_upd, take_succ_at h, bad_snoc, if_neg (by rw [hp]; exact Bool.false_ne_true), List.map_append]
  rfl
theorem bL_len {p : Nat → Bool} {z : Str} {i : Nat} (h : z.length ≤ sizeLine - 1) : ((bad p (z.cps.toList.take i)).map V.str).length < sizeLine := by
  rw [List.length_map]
  have a := bad_len p (z.cps.toList.take i)
  have b : (z.cps.toList.take i).length ≤ z.cps.toList.length := by rw [List.length_take]; omega
  have e : z.cps.toList.length = z.length := by rw [Array.length_toList]; rfl
  have l := PySem.sizeLine_eq
  omega
/-- the whole list, against [] -/
theorem bL_eq {K : PySem.W.Frag} {p : Nat → Bool} {z : Str} {G : Hp} {D q : Addr} {Q : VK} (za : asc z) (hq : (upd G D (bL p z z.cps.size)) q = none)
    (k : Q (.bl (z.cps.toList.all p)) (upd (upd G D (bL p z z.cps.size)) q (.lst []))) :
    rEqD K (.ref D) (.ref q) (upd (upd G D (bL p z z.cps.size)) q (.lst [])) Q := by
  have hD : (upd (upd G D (bL p z z.cps.size)) q (.lst [])) D = some (.lst ((bad p z.cps.toList).map V.str)) := by
    rw [upd_ne (ne_of_none upd_same hq), upd_same]
    unfold bL
    rw [show z.cps.size = z.cps.toList.length by simp, List.take_length]
  refine ⟨.list (pds (bad p z.cps.toList)), .list (pds []), .lst (SqL.of hD) (dp_strs _), .lst (SqL.of upd_same) (dp_strs []), shaped_strs _ (bad_ok za), shaped_strs [] (fun _ h => nomatch h), ?_⟩
  have e : PyData.eqv (.list (pds (bad p z.cps.toList))) (.list (pds [])) = z.cps.toList.all p := by
    show PyData.eqvAll _ _ = _
    rw [eqv_strs, bad_nil]
  rw [e]
  exact k
theorem bL_ne {K : PySem.W.Frag} {p : Nat → Bool} {z : Str} {G : Hp} {D q : Addr} {Q : VK} (za : asc z) (hq : (upd G D (bL p z z.cps.size)) q = none)
    (k : Q (.bl (!z.cps.toList.all p)) (upd (upd G D (bL p z z.cps.size)) q (.lst []))) :
    rNeD K (.ref D) (.ref q) (upd (upd G D (bL p z z.cps.size)) q (.lst [])) Q := by
  obtain ⟨d, e, h1, h2, h3, h4, h5⟩ := bL_eq (K := K) (Q := fun v H => v = .bl (z.cps.toList.all p) ∧ H = (upd (upd G D (bL p z z.cps.size)) q (.lst []))) za hq ⟨rfl, rfl⟩
  refine ⟨d, e, h1, h2, h3, h4, ?_⟩
  rw [V.bl.inj h5.1]
  exact k
theorem fig_at {d : Nat} (h : fi d = true) : ∃ rest, Builtin.Str.occurrences ("0123456789" : Str) ⟨#[d]⟩ 0 ("0123456789" : Str).length 1 = (d - 48) :: rest := by
  unfold fi at h
  simp only [Bool.and_eq_true, decide_eq_true_eq] at h
  have all : ∀ n : Nat, n < 10 → ∃ rest, Builtin.Str.occurrences ("0123456789" : Str) ⟨#[48 + n]⟩ 0 ("0123456789" : Str).length 1 = n :: rest := by
    intro n hn
    have : n = 0 ∨ n = 1 ∨ n = 2 ∨ n = 3 ∨ n = 4 ∨ n = 5 ∨ n = 6 ∨ n = 7 ∨ n = 8 ∨ n = 9 := by omega
    rcases this with rfl | rfl | rfl | rfl | rfl | rfl | rfl | rfl | rfl | rfl <;> exact ⟨[], by decide +kernel⟩
  obtain ⟨rest, e⟩ := all (d - 48) (by omega)
  exact ⟨rest, by rw [show 48 + (d - 48) = d by omega] at e; exact e⟩
section
variable {P : Program} {w : World} {K : PySem.W.Frag} {mg : Str → Option Value} {base : Heap} {ow c tb : Addr} {tF tL tN tV : Tok}
/-- tells g z, whatever new things were laid -/
def spDue (g : Str → V) : Sp := fun vs H Q _ => ∃ z, vs = [.str z] ∧ asc z ∧ z.length ≤ sizeLine - 1 ∧ ∀ H', Same H H' → Q (g z) H'
theorem same_new {H H1 : Hp} {p : Addr} {u : HO} (h : Same H H1) (hp : H1 p = none) : Same H (upd H1 p u) := fun b o e => by
  rw [upd_ne (ne_of_none (h b o e) hp)]
  exact h b o e
theorem ok_ndue (D : Laws2 K mg) (D1 : Laws1 K mg) (T : Tx K mg ow tF tL tN tV) : FnOk P w K mg base CX0 2 D._law_name_due.f D._law_name_due.fd ["_law_text_here"] (spDue fun z => .bl (nameOk (.str z))) := by
  have G_law_own : FnOk P w K mg base CX0 1 D1._law_own.f D1._law_own.fd [] spOwn := ok_lown D1 T
  refine D._law_name_due.F.ok scLnamedue (fun vs H Q E h => ?_) (fun cdv A outer s H vs Q E hr h => ?_)
  · obtain ⟨z, rfl, _⟩ := h
    rfl
  · obtain ⟨z, rfl, za, zl, k⟩ := h
    have k : ∀ H', Same H H' → Q (.bl (nameOk (.str z))) H' := k
    have zlen : z.length = z.cps.toList.length := by rw [Array.length_toList]; rfl
    refine ⟨_, (pss_cons (ps_if (PW.pt (pw_or (pt_not (pt_chain op_lt op_lt pe_int (pe_callB call_len_str (by rfl) T.b_len (by decide +kernel) (pa_cons (pv 0) pa_nil)) pe_int)) (pw_or1 (pt_cmpR op_in_seq (pv 0) (pcall0 D1._law_own G_law_own hr (by decide) (by rfl)) (by rfl))))) (pss_one (ps_ret pe_bl)) pss_nil)
        (pss_one (ps_ret (pe_cmpR (op_eqD hr.units) (pe_lc (own := [("_law_sign", 1)]) (g := gName 1) rfl scLnamedue.nd (pi_str (pv 0)) (blkOk_by (N := scLnamedue_N) (sc := defScope scLnamedue_st) (by decide +kernel)) (fun _ _ _ _ _ => pg_name (i := 1) scLnamedue.nd rfl (Or.inl rfl)) (fun _ _ _ _ _ => pts_one (pt_not (pt_chain op_le_str op_le_str pe_str (pv 1) pe_str))) (fun _ _ _ _ _ => (pv 1))) (pe_lst pa_nil) (nomark _))))), ?_⟩
    have lenI : ∀ n : Nat, decide ((n : Int) < 9) = decide (n ≤ 8) := fun n => by rw [decide_eq_decide]; omega
    refine ⟨_, rfl, z, rfl, by omega, _, _, rfl, rfl, _, rfl, ?_⟩
    by_cases h1 : (0 : Int) < (z.length : Int)
    · rw [decide_eq_true h1]
      refine iteT ⟨_, _, rfl, rfl, _, rfl, ?_⟩
      by_cases h2 : (z.length : Int) < 9
      · rw [decide_eq_true h2]
        refine iteF ⟨_, rfl, rfl, fun p hp => ⟨p, _, rfl, .inl (SqL.of upd_same), rfl, by decide +kernel, _, rfl, ?_⟩⟩
        rw [own_in]
        have sP : Same H (upd H p (.lst (ownW.map V.str))) := same_new (Same.refl H) hp
        by_cases h3 : z ∈ ownW
        · rw [if_neg Bool.false_ne_true, decide_eq_true h3]
          refine iteT ?_
          have e : nameOk (.str z) = false := by simp [nameOk, h3]
          have k := k _ sP
          rw [e] at k
          exact k
        · rw [if_neg Bool.false_ne_true, decide_eq_false h3]
          refine iteF ⟨_, rfl, z, rfl, fun D hD => lc_it walk_str (fun i H1 => H1 = upd (upd H p (.lst (ownW.map V.str))) D (bL lo z i))
            rfl (fun _ _ _ _ => trivial) ?_ ?_⟩
          · rintro i x H1 H2 hi rfl ⟨rfl, d, hd, rfl⟩
            have hd' : z.cps.toList[i]? = some d := by rw [Array.getElem?_toList]; exact hd
            refine ⟨rfl, _, rfl, _, _, rfl, rfl, _, rfl, ?_⟩
            have keep : lo d = false → tVar 1 (List.set (wipe (L2.start scLnamedue_N [V.str z]) [1]) 1 (some (V.str ⟨#[d]⟩))) (upd (upd H p (.lst (ownW.map V.str))) D (bL lo z i)) fun y H4 =>
                ∃ acc, H4 D = some (HO.lst acc) ∧ acc.length < sizeLine ∧ upd H4 D (HO.lst (acc ++ [y])) = upd (upd H p (.lst (ownW.map V.str))) D (bL lo z (i + 1)) :=
              fun q => ⟨_, rfl, _, upd_same, bL_len zl, bL_yes hd' q⟩
            rw [ltA]
            cases ha : decide (d < 97) with
            | true => exact iteF ⟨_, rfl, iteT (keep (by have := of_decide_eq_true ha; simp [lo]; omega))⟩
            | false =>
              refine iteT ⟨_, _, rfl, rfl, _, rfl, ?_⟩
              rw [ltZ]
              cases hz : decide (122 < d) with
              | true => exact iteT (keep (by have := of_decide_eq_true hz; simp [lo]; omega))
              | false => exact iteF (bL_no hd' (by have := of_decide_eq_false hz; have := of_decide_eq_false ha; simp [lo]; omega))
          · rintro H1 rfl
            refine ⟨Nat.zero_le _, fun q hq => bL_eq za hq ?_⟩
            have e : nameOk (.str z) = z.cps.toList.all lo := by
              have a : (1 : Int) ≤ (z.length : Int) := by omega
              have b : (z.length : Int) ≤ 8 := by omega
              have l : allIn LET z = z.cps.toList.all lo := by
                unfold allIn
                congr 1
                funext c
                exact let_mem c
              simp [nameOk, writ, a, b, h3, l]
            have k := k _ (same_new (u := .lst []) (same_new sP hD) hq)
            rw [e] at k
            exact k
      · rw [decide_eq_false h2]
        refine iteT ?_
        have e : nameOk (.str z) = false := by
          have : ¬ ((z.length : Int) ≤ 8) := by omega
          simp [nameOk, writ, this]
        have k := k _ (Same.refl H)
        rw [e] at k
        exact k
    · rw [decide_eq_false h1]
      refine iteF ⟨_, rfl, iteT ?_⟩
      have e : nameOk (.str z) = false := by
        have : ¬ ((1 : Int) ≤ (z.length : Int)) := by omega
        simp [nameOk, writ, this]
      have k := k _ (Same.refl H)
      rw [e] at k
      exact k
theorem ok_vdue (D : Laws2 K mg) (D1 : Laws1 K mg) (T : Tx K mg ow tF tL tN tV) : FnOk P w K mg base CX0 2 D._law_value_due.f D._law_value_due.fd ["_law_text_here"] (spDue fun z => .bl (valOk (.str z))) := by
  refine D._law_value_due.F.ok scLvaluedue (fun vs H Q E h => ?_) (fun cdv A outer s H vs Q E hr h => ?_)
  · obtain ⟨z, rfl, _⟩ := h
    rfl
  · obtain ⟨z, rfl, za, zl, k⟩ := h
    have k : ∀ H', Same H H' → Q (.bl (valOk (.str z))) H' := k
    refine ⟨_, (pss_cons (ps_if (pt_not (pt_chain op_lt op_lt pe_int (pe_callB call_len_str (by rfl) T.b_len (by decide +kernel) (pa_cons (pv 0) pa_nil)) pe_int)) (pss_one (ps_ret pe_bl)) pss_nil)
        (pss_one (ps_ret (pe_cmpR (op_eqD hr.units) (pe_lc (own := [("_law_sign", 1)]) (g := gName 1) rfl scLvaluedue.nd (pi_str (pv 0)) (blkOk_by (N := scLvaluedue_N) (sc := defScope scLvaluedue_st) (by decide +kernel)) (fun _ _ _ _ _ => pg_name (i := 1) scLvaluedue.nd rfl (Or.inl rfl)) (fun _ _ _ _ _ => pts_one (PW.pt (pw_and (pt_not (pt_chain op_le_str op_le_str pe_str (pv 1) pe_str)) (pw_and1 (pt_not (pt_chain op_le_str op_le_str pe_str (pv 1) pe_str)))))) (fun _ _ _ _ _ => (pv 1))) (pe_lst pa_nil) (nomark _))))), ?_⟩
    refine ⟨_, rfl, z, rfl, by omega, _, _, rfl, rfl, _, rfl, ?_⟩
    by_cases h1 : (0 : Int) < (z.length : Int)
    · rw [decide_eq_true h1]
      refine iteT ⟨_, _, rfl, rfl, _, rfl, ?_⟩
      by_cases h2 : (z.length : Int) < 13
      · rw [decide_eq_true h2]
        refine iteF ⟨_, rfl, z, rfl, fun D hD => lc_it walk_str (fun i H1 => H1 = upd H D (bL (fun c => lo c || fi c) z i))
            rfl (fun _ _ _ _ => trivial) ?_ ?_⟩
        · rintro i x H1 H2 hi rfl ⟨rfl, d, hd, rfl⟩
          have hd' : z.cps.toList[i]? = some d := by rw [Array.getElem?_toList]; exact hd
          have keep : (lo d || fi d) = false → tVar 1 (List.set (wipe (L2.start scLvaluedue_N [V.str z]) [1]) 1 (some (V.str ⟨#[d]⟩))) (upd H D (bL (fun c => lo c || fi c) z i)) fun y H4 =>
              ∃ acc, H4 D = some (HO.lst acc) ∧ acc.length < sizeLine ∧ upd H4 D (HO.lst (acc ++ [y])) = upd H D (bL (fun c => lo c || fi c) z (i + 1)) :=
            fun q => ⟨_, rfl, _, upd_same, bL_len zl, bL_yes hd' q⟩
          -- the second test
          have second : lo d = false → (tNot (tTest (tChain (fun x y H Q => ∃ i j, x = V.str i ∧ y = V.str j ∧ Q (V.bl !decide (j.cps.toList < i.cps.toList)) H)
              (fun x y H Q => ∃ i j, x = V.str i ∧ y = V.str j ∧ Q (V.bl !decide (j.cps.toList < i.cps.toList)) H)
              (tC (V.str "0")) (tVar 1) (tC (V.str "9"))))) (List.set (wipe (L2.start scLvaluedue_N [V.str z]) [1]) 1 (some (V.str ⟨#[d]⟩))) (upd H D (bL (fun c => lo c || fi c) z i))
              fun b H3 => if b = true then tVar 1 (List.set (wipe (L2.start scLvaluedue_N [V.str z]) [1]) 1 (some (V.str ⟨#[d]⟩))) H3 (fun y H4 =>
                ∃ acc, H4 D = some (HO.lst acc) ∧ acc.length < sizeLine ∧ upd H4 D (HO.lst (acc ++ [y])) = upd H D (bL (fun c => lo c || fi c) z (i + 1)))
              else H3 = upd H D (bL (fun c => lo c || fi c) z (i + 1)) := fun l0 => by
            refine ⟨_, rfl, _, _, rfl, rfl, _, rfl, ?_⟩
            rw [lt0]
            cases ha : decide (d < 48) with
            | true => exact iteF ⟨_, rfl, iteT (keep (by have := of_decide_eq_true ha; rw [l0]; simp [fi]; omega))⟩
            | false =>
              refine iteT ⟨_, _, rfl, rfl, _, rfl, ?_⟩
              rw [lt9]
              cases hz : decide (57 < d) with
              | true => exact iteT (keep (by have := of_decide_eq_true hz; rw [l0]; simp [fi]; omega))
              | false => exact iteF (bL_no hd' (by have := of_decide_eq_false hz; have := of_decide_eq_false ha; show (lo d || fi d) = true; rw [l0]; simp [fi]; omega))
          refine ⟨rfl, _, rfl, _, _, rfl, rfl, _, rfl, ?_⟩
          rw [ltA]
          cases ha : decide (d < 97) with
          | true => exact iteF ⟨_, rfl, iteT (second (by have := of_decide_eq_true ha; simp [lo]; omega))⟩
          | false =>
            refine iteT ⟨_, _, rfl, rfl, _, rfl, ?_⟩
            rw [ltZ]
            cases hz : decide (122 < d) with
            | true => exact iteT (second (by have := of_decide_eq_true hz; simp [lo]; omega))
            | false => exact iteF (iteF (bL_no hd' (by have := of_decide_eq_false hz; have := of_decide_eq_false ha; show (lo d || fi d) = true; simp [lo, fi]; omega)))
        · rintro H1 rfl
          refine ⟨Nat.zero_le _, fun q hq => bL_eq za hq ?_⟩
          have e : valOk (.str z) = z.cps.toList.all (fun c => lo c || fi c) := by
            have a : (1 : Int) ≤ (z.length : Int) := by omega
            have b : (z.length : Int) ≤ 12 := by omega
            have l : allIn (LET ++ FIG) z = z.cps.toList.all (fun c => lo c || fi c) := by
              unfold allIn
              congr 1
              funext c
              rw [← let_mem, ← fig_memb]
              have e1 : (LET ++ FIG).cps.toList = LET.cps.toList ++ FIG.cps.toList := by decide +kernel
              rw [e1, Bool.eq_iff_iff, Bool.or_eq_true, decide_eq_true_eq, decide_eq_true_eq, decide_eq_true_eq]
              exact List.mem_append
            simp [valOk, writ, a, b, l]
          have k := k _ (same_new (u := .lst []) (same_new (Same.refl H) hD) hq)
          rw [e] at k
          exact k
      · rw [decide_eq_false h2]
        refine iteT ?_
        have e : valOk (.str z) = false := by
          have : ¬ ((z.length : Int) ≤ 12) := by omega
          simp [valOk, writ, this]
        have k := k _ (Same.refl H)
        rw [e] at k
        exact k
    · rw [decide_eq_false h1]
      refine iteF ⟨_, rfl, iteT ?_⟩
      have e : valOk (.str z) = false := by
        have : ¬ ((1 : Int) ≤ (z.length : Int)) := by omega
        simp [valOk, writ, this]
      have k := k _ (Same.refl H)
      rw [e] at k
      exact k
theorem all_fi (z : Str) : z.cps.toList.all fi = allIn FIG z := by
  unfold allIn
  congr 1
  funext c
  exact (fig_memb c).symm
def spNum : Sp := fun vs H Q _ => ∃ z most, vs = [.str z, .int most] ∧ asc z ∧ z.length ≤ sizeLine - 1 ∧ ∀ H', Same H H' → Q (plainS z most) H'
theorem ok_numdue (D : Laws2 K mg) (T : Tx K mg ow tF tL tN tV) : FnOk P w K mg base CX0 1 D._law_number_due.f D._law_number_due.fd ["_law_text_here", "_law_most"] spNum := by
  refine D._law_number_due.F.ok scLnumberdue (fun vs H Q E h => ?_) (fun cdv A outer s H vs Q E hr h => ?_)
  · obtain ⟨z, m, rfl, _⟩ := h
    rfl
  · obtain ⟨z, most, rfl, za, zl, k⟩ := h
    have sl : z.length ≤ sizeLine := by omega
    have zlen : z.length = z.cps.toList.length := by rw [Array.length_toList]; rfl
    refine ⟨_, (pss_cons (ps_if (PW.pt (pw_or (pt_cmpR op_eq (pv 0) pe_str (nomark _)) (pw_or1 (pt_cmpR (op_neD hr.units) (pe_lc (own := [("_law_sign", 2)]) (g := gName 2) rfl scLnumberdue.nd (pi_str (pv 0)) (blkOk_by (N := scLnumberdue_N) (sc := defScope scLnumberdue_st) (by decide +kernel)) (fun _ _ _ _ _ => pg_name (i := 2) scLnumberdue.nd rfl (Or.inl rfl)) (fun _ _ _ _ _ => pts_one (pt_not (pt_chain op_le_str op_le_str pe_str (pv 2) pe_str))) (fun _ _ _ _ _ => (pv 2))) (pe_lst pa_nil) (nomark _))))) (pss_one (ps_ret pe_non)) pss_nil)
        (pss_cons (ps_if (PW.pt (pw_and (pt_cmpR op_eq (pe_ix ix_str (pv 0) pe_int (fun _ _ => rfl)) pe_str (nomark _)) (pw_and1 (pt_cmpR op_ne (pv 0) pe_str (nomark _))))) (pss_one (ps_ret pe_non)) pss_nil)
        (pss_cons (ps_set (i := 3) scLnumberdue.nd rfl (Or.inl rfl) pe_int)
        (pss_cons (ps_for PassesOwn.never rfl (pi_str (pv 0)) (pg_name (i := 2) scLnumberdue.nd rfl (Or.inl rfl)) (pss_one (ps_set (i := 3) scLnumberdue.nd rfl (Or.inl rfl) (pe_op op_add (pe_op op_mul pe_int (pv 3)) (pe_bm PySem.F.plainAttrs_str PySem.F.slot_str_index PySem.F.type_str_index mt_sindex pe_str (pa_cons (pv 2) pa_nil))))))
        (pss_cons (ps_if (pt_cmpR op_gt (pv 3) (pv 1) (nomark _)) (pss_one (ps_ret pe_non)) pss_nil)
        (pss_one (ps_ret (pv 3)))))))), ?_⟩
    refine ⟨_, rfl, rfl, _, rfl, ?_⟩
    by_cases h1 : z = ""
    · rw [decide_eq_true (congrArg V.str h1)]
      refine iteT ?_
      have k := k _ (Same.refl H)
      have e : plainS z most = .non := by
        refine plain_no ?_
        rw [h1]
        unfold plainOk
        have : (allIn FIG "" && decide (1 ≤ ("" : Str).length)) = false := by decide +kernel
        rw [this, Bool.false_and]
      rw [e] at k
      exact k
    · rw [decide_eq_false fun q => h1 (V.str.inj q)]
      have z1 : 1 ≤ z.length := by
        apply Classical.byContradiction
        intro q
        apply h1
        have e0 : z.cps.toList = [] := List.length_eq_zero_iff.mp (by omega)
        have e1 : ("" : Str).cps.toList = [] := by decide +kernel
        have e2 : z.cps = ("" : Str).cps := Array.toList_inj.mp (e0.trans e1.symm)
        cases z
        exact congrArg Str.mk e2
      refine iteF ⟨_, rfl, z, rfl, fun D hD => lc_it walk_str (fun i H1 => H1 = upd H D (bL fi z i)) rfl (fun _ _ _ _ => trivial) ?_ ?_⟩
      · rintro i x H1 H2 hi rfl ⟨rfl, d, hd, rfl⟩
        have hd' : z.cps.toList[i]? = some d := by rw [Array.getElem?_toList]; exact hd
        have keep : fi d = false → tVar 2 (List.set (wipe (L2.start scLnumberdue_N [V.str z, V.int most]) [2]) 2 (some (V.str ⟨#[d]⟩))) (upd H D (bL fi z i)) fun y H4 =>
            ∃ acc, H4 D = some (HO.lst acc) ∧ acc.length < sizeLine ∧ upd H4 D (HO.lst (acc ++ [y])) = upd H D (bL fi z (i + 1)) :=
          fun q => ⟨_, rfl, _, upd_same, bL_len zl, bL_yes hd' q⟩
        refine ⟨rfl, _, rfl, _, _, rfl, rfl, _, rfl, ?_⟩
        rw [lt0]
        cases ha : decide (d < 48) with
        | true => exact iteF ⟨_, rfl, iteT (keep (by have := of_decide_eq_true ha; simp [fi]; omega))⟩
        | false =>
          refine iteT ⟨_, _, rfl, rfl, _, rfl, ?_⟩
          rw [lt9]
          cases hz : decide (57 < d) with
          | true => exact iteT (keep (by have := of_decide_eq_true hz; simp [fi]; omega))
          | false => exact iteF (bL_no hd' (by have := of_decide_eq_false hz; have := of_decide_eq_false ha; simp [fi]; omega))
      · rintro H1 rfl
        refine ⟨Nat.zero_le _, fun q hq => bL_ne za hq ⟨_, rfl, ?_⟩⟩
        have k := k _ (same_new (u := .lst []) (same_new (Same.refl H) hD) hq)
        generalize hH2 : upd (upd H D (bL fi z z.cps.size)) q (HO.lst []) = H2 at k ⊢
        rw [all_fi]
        cases hf : allIn FIG z with
        | false =>
          refine iteT ?_
          have e : plainS z most = .non := plain_no (by unfold plainOk; rw [hf]; rfl)
          rw [e] at k
          exact k
        | true =>
          obtain ⟨d, r, hz⟩ : ∃ d r, z.cps.toList = d :: r := by
            cases q : z.cps.toList with
            | nil => rw [q] at zlen; simp at zlen; omega
            | cons d r => exact ⟨d, r, rfl⟩
          have zok : plainOk z most = (noLead z && decide (((NumText.digitsVal z.cps.toList : Nat) : Int) ≤ most)) := by
            unfold plainOk
            rw [hf, decide_eq_true z1]
            rfl
          have d0 : decide (V.str ⟨#[d]⟩ = V.str "0") = decide (d = 48) := by
            rw [decide_eq_decide]
            constructor
            · intro q
              injection q with q
              have q2 := congrArg (fun s : Str => s.cps.toList) q
              have e0 : ("0" : Str).cps.toList = [48] := by decide +kernel
              simp only [e0] at q2
              injection q2
            · intro q
              subst q
              exact congrArg V.str (by decide +kernel)
          have e0 : ("0" : Str).cps.toList = [48] := by decide +kernel
          have zero_of : d = 48 → r = [] → z = "0" := fun a b => by
            have e1 : z.cps.toList = ("0" : Str).cps.toList := by rw [hz, a, b, e0]
            have e2 : z.cps = ("0" : Str).cps := Array.toList_inj.mp e1
            cases z
            exact congrArg Str.mk e2
          refine iteF ⟨_, rfl, z, 0, d, rfl, rfl, sl, ?_, rfl, _, rfl, ?_⟩
          · rw [hz]
            exact atI_nat (j := 0) rfl
          rw [d0]
          have hc : (d = 48 ∧ z = "0") ∨ (d = 48 ∧ z ≠ "0") ∨ d ≠ 48 := by
            by_cases a : d = 48
            · by_cases b : z = "0"
              · exact .inl ⟨a, b⟩
              · exact .inr (.inl ⟨a, b⟩)
            · exact .inr (.inr a)
          have nlA : d ≠ 48 → noLead z = true := fun hd => noLead_iff.mpr fun r' q => by
            rw [hz] at q
            injection q with q1 _
            exact absurd q1 hd
          have nlB : z = "0" → noLead z = true := fun q => by rw [q]; decide +kernel
          rcases hc with ⟨hd, h0⟩ | ⟨hd, h0⟩ | hd
          case inr.inl =>
            rw [decide_eq_true hd]
            refine iteT ⟨_, rfl, rfl, _, rfl, ?_⟩
            rw [decide_eq_false fun q => h0 (V.str.inj q)]
            refine iteT ?_
            have nl : noLead z = false := by
              cases q : noLead z with
              | false => rfl
              | true => exact absurd (zero_of hd (noLead_iff.mp q r (by rw [hz, hd]))) h0
            have e : plainS z most = .non := plain_no (by rw [zok, nl]; rfl)
            rw [e] at k
            exact k
          case' inl => (rw [decide_eq_true hd]; refine iteT ⟨_, rfl, rfl, _, rfl, ?_⟩; rw [decide_eq_true (congrArg V.str h0)]; refine iteF ?_)
          case' inr.inr => (rw [decide_eq_false hd]; refine iteF (iteF ?_))
          all_goals
            have nl : noLead z = true := by first | exact nlB h0 | exact nlA hd
            refine ⟨_, rfl, z, rfl, for_it walk_str (fun i σ H1 => H1 = H2 ∧ ∃ v, σ = [some (.str z), some (.int most), v, some (.int ((NumText.digitsVal (z.cps.toList.take i) : Nat) : Int))])
              ⟨rfl, _, rfl⟩ (fun _ _ _ _ _ => trivial) ?_ ?_⟩
            · rintro i x σ H3 H4 hi ⟨rfl, v, rfl⟩ ⟨rfl, e, he, rfl⟩
              have he' : z.cps.toList[i]? = some e := by rw [Array.getElem?_toList]; exact he
              have ef : fi e = true := by
                have := all_fi z
                rw [hf] at this
                exact List.all_eq_true.mp this e (List.mem_of_getElem? he')
              obtain ⟨rs, ho⟩ := fig_at ef
              refine ⟨_, rfl, _, _, rfl, rfl, .inl ⟨by decide, by decide⟩, rfl, _, rfl, _, _, _, _, rfl, rfl, ho, _, _, rfl, rfl, rfl, some (.str ⟨#[e]⟩), ?_⟩
              have q : ((10 : Int) * ((NumText.digitsVal (z.cps.toList.take i) : Nat) : Int) + (((e - 48 : Nat)) : Int)) = ((NumText.digitsVal (z.cps.toList.take (i + 1)) : Nat) : Int) := by
                rw [take_succ_at he', NumText.digitsVal_snoc]
                omega
              rw [← q]
              rfl
            · rintro σ H3 ⟨rfl, v, rfl⟩
              rw [show z.cps.size = z.cps.toList.length by simp, List.take_length]
              refine ⟨_, rfl, _, rfl, _, _, rfl, rfl, _, rfl, ?_⟩
              have k : Q (if plainOk z most = true then .int ((NumText.digitsVal z.cps.toList : Nat) : Int) else .non) H3 := k
              rw [zok, nl, Bool.true_and] at k
              by_cases y : most < ((NumText.digitsVal z.cps.toList : Nat) : Int)
              · rw [decide_eq_true y]
                refine iteT ?_
                rw [decide_eq_false (by omega), if_neg Bool.false_ne_true] at k
                exact k
              · rw [decide_eq_false y]
                rw [decide_eq_true (by omega), if_pos rfl] at k
                exact iteF ⟨_, rfl, k⟩
end
end LL
namespace LL
open PySem PySem.Spec PyProof.Rows L2
abbrev scLtextsright_st : Stmt := top 23
abbrev scLtextsright_N : List Str := ["_law_text_here", "_law_most"]
theorem scLtextsright : FnScope scLtextsright_N ["_law_text_here", "_law_most"] (defScope scLtextsright_st) := ⟨rfl, rfl, rfl, by decide +kernel, rfl, by decide +kernel, by decide +kernel⟩
/-! ### a drawn text -/
def SIGNS : Str := "abcdefghijklmnopqrstuvwxyz0123456789"
def MORE : Str := " !#$&'()*+,-./:;<=>?@ABCDEFGHIJKLMNOPQRSTUVWXYZ[]^_{|}~\n"
theorem asc_signs : asc SIGNS := by
  unfold asc
  decide +kernel
theorem asc_more : asc MORE := by
  unfold asc
  decide +kernel
theorem sign_at (z : Str) {r : Int} (h0 : 0 ≤ r) (h1 : r < (z.length : Int)) (ha : asc z) : ∃ d, atI z.cps.toList r = some d ∧ d < 128 := by
  obtain ⟨j, rfl⟩ := Int.eq_ofNat_of_zero_le h0
  have zl : z.length = z.cps.toList.length := by rw [Array.length_toList]; rfl
  have hj : j < z.cps.toList.length := by omega
  exact ⟨z.cps.toList[j], atI_nat (List.getElem?_eq_getElem hj), ha _ (List.getElem_mem hj)⟩
theorem asc_snoc {z : Str} {d : Nat} (h : asc z) (hd : d < 128) : asc (z ++ ⟨#[d]⟩) := by
  intro c hc
  have e : (z ++ (⟨#[d]⟩ : Str)).cps.toList = z.cps.toList ++ [d] := by
    show (z.cps ++ #[d]).toList = _
    simp
  rw [e] at hc
  rcases List.mem_append.mp hc with q | q
  · exact h c q
  · rw [List.mem_singleton.mp q]
    exact hd
theorem len_snoc (z : Str) (d : Nat) : (z ++ (⟨#[d]⟩ : Str)).length = z.length + 1 := by
  show (z.cps ++ #[d]).size = z.cps.size + 1
  simp
theorem asc_app {z y : Str} (h : asc z) (h' : asc y) : asc (z ++ y) := by
  intro c hc
  have e : (z ++ y).cps.toList = z.cps.toList ++ y.cps.toList := by
    show (z.cps ++ y.cps).toList = _
    simp
  rw [e] at hc
  rcases List.mem_append.mp hc with q | q
  · exact h c q
  · exact h' c q
theorem len_app (z y : Str) : (z ++ y).length = z.length + y.length := by
  show (z.cps ++ y.cps).size = z.cps.size + y.cps.size
  simp
section
variable {P : Program} {w : World} {K : PySem.W.Frag} {mg : Str → Option Value} {base : Heap} {ow c tb : Addr} {tF tL tN tV : Tok}
def spText : Sp := fun vs H Q _ => ∃ (a : Addr) (o : HO), vs = [.ref a] ∧ H a = some o ∧ BoxO o ∧
  ∀ (z : Str) H', z.length ≤ 13 → asc z → Kept a H H' → Q (.str z) H'
theorem ok_text (D : Laws1 K mg) (T : Tx K mg ow tF tL tN tV) : FnOk P w K mg base CX0 2 D._law_text.f D._law_text.fd ["_law_box_here"] spText := by
  have G_law_take : FnOk P w K mg base CX0 1 D._law_take.f D._law_take.fd ["_law_box_here", "_law_many"] spTake := ok_take D T
  refine D._law_text.F.ok scLtext (fun vs H Q E h => ?_) (fun cdv A outer s H vs Q E hr h => ?_)
  · obtain ⟨a, o, rfl, _⟩ := h
    rfl
  · obtain ⟨a, o, rfl, ha, hB, k⟩ := h
    refine ⟨_, (pss_cons (ps_set (i := 1) scLtext.nd rfl (Or.inl rfl) pe_str)
        (pss_cons (ps_set (i := 2) scLtext.nd rfl (Or.inl rfl) pe_str)
        (pss_cons (ps_set (i := 3) scLtext.nd rfl (Or.inl rfl) (pcall D._law_take G_law_take hr (by decide) (by rfl) (pa_cons (pv 0) (pa_cons pe_int pa_nil))))
        (pss_cons (ps_set (i := 4) scLtext.nd rfl (Or.inl rfl) pe_str)
        (pss_cons (ps_for PassesOwn.never rfl (pi_range1 rfl T.b_range (pa_cons (pcall D._law_take G_law_take hr (by decide) (by rfl) (pa_cons (pv 0) (pa_cons pe_int pa_nil))) pa_nil)) (pg_name (i := 5) scLtext.nd rfl (Or.inl rfl)) (pss_one (ps_if (PW.pt (pw_and (pt_cmpR op_eq (pv 3) pe_int (nomark _)) (pw_and1 (pt_cmpR op_eq (pcall D._law_take G_law_take hr (by decide) (by rfl) (pa_cons (pv 0) (pa_cons pe_int pa_nil))) pe_int (nomark _))))) (pss_one (ps_set (i := 4) scLtext.nd rfl (Or.inl rfl) (pe_op op_add_str (pv 4) (pe_ix ix_str (pv 2) (pcall D._law_take G_law_take hr (by decide) (by rfl) (pa_cons (pv 0) (pa_cons (pe_callB call_len_str (by rfl) T.b_len (by decide +kernel) (pa_cons (pv 2) pa_nil)) pa_nil))) (fun _ _ => rfl))))) (pss_one (ps_set (i := 4) scLtext.nd rfl (Or.inl rfl) (pe_op op_add_str (pv 4) (pe_ix ix_str (pv 1) (pcall D._law_take G_law_take hr (by decide) (by rfl) (pa_cons (pv 0) (pa_cons (pe_ix ix_list (pe_lst (pa_cons pe_int (pa_cons pe_int (pa_cons pe_int (pa_cons pe_int pa_nil))))) (pv 3) (fun _ _ => rfl)) pa_nil))) (fun _ _ => rfl))))))))
        (pss_one (ps_ret (pv 4)))))))), ?_⟩
    refine ⟨_, rfl, a, o, 4, rfl, ha, hB, by decide, by decide, fun kd o1 k0 k4 B1 => ?_⟩
    refine ⟨_, rfl, a, o1, 14, rfl, upd_same, B1, by decide, by decide, fun n o2 n0 n1 B2 => ?_⟩
    refine ⟨n, rfl, by omega, by omega, for_range (lo := 0) (n := n.toNat) (fun i σ H1 => ∃ (z : Str) (v : Option V), σ = [some (.ref a), some (.str SIGNS), some (.str MORE), some (.int kd), some (.str z), v] ∧ z.length ≤ i ∧ asc z ∧ Kept a H H1)
      ⟨"", none, rfl, Nat.le_of_eq (by decide +kernel), (by unfold asc; decide +kernel), by rw [upd_upd]; exact Kept.upd B2⟩ ?_ ?_⟩
    · rintro i σ H1 hi ⟨z, v, rfl, zl, za, kp⟩
      have i13 : i < 13 := by omega
      obtain ⟨⟨o3, e3, B3⟩, old⟩ := id kp
      have hc : kd = 3 ∨ kd ≠ 3 := by omega
      refine ⟨_, rfl, rfl, _, rfl, ?_⟩
      rcases hc with h3 | h3
      case' inl =>
        rw [decide_eq_true (congrArg V.int h3)]
        refine iteT ⟨_, rfl, a, o3, 4, rfl, e3, B3, by decide, by decide, fun r o4 r0 r1 B4 => ⟨rfl, _, rfl, ?_⟩⟩
        by_cases hr0 : r = 0
        case pos =>
          rw [decide_eq_true (congrArg V.int hr0)]
          refine iteT ⟨_, rfl, _, rfl, _, rfl, _, rfl, MORE, rfl, by decide +kernel, a, o4, (MORE.length : Int), rfl, upd_same, B4, by decide +kernel, by decide +kernel, fun q o5 q0 q1 B5 => ?_⟩
          obtain ⟨d, hd, d128⟩ := sign_at MORE q0 q1 asc_more
          refine ⟨MORE, q, d, rfl, rfl, by decide +kernel, hd, _, _, rfl, rfl, ?_, ?_⟩
          · have e : (⟨#[d]⟩ : Str).length = 1 := rfl
            rw [e]
            have l := PySem.sizeLine_eq
            omega
          · exact ⟨_, _, rfl, by rw [len_snoc]; omega, asc_snoc za d128, kp.trans (by rw [upd_upd]; exact Kept.upd B5)⟩
        rw [decide_eq_false fun q => hr0 (V.int.inj q)]
        refine iteF ?_
        obtain ⟨H2, o5, hH2, e5, B5, kp5⟩ : ∃ H2 o5, upd H1 a o4 = H2 ∧ H2 a = some o5 ∧ BoxO o5 ∧ Kept a H1 H2 := ⟨_, o4, rfl, upd_same, B4, Kept.upd B4⟩
        rw [hH2]
      case' inr =>
        rw [decide_eq_false fun q => h3 (V.int.inj q)]
        refine iteF (iteF ?_)
        obtain ⟨H2, o5, hH2, e5, B5, kp5⟩ : ∃ H2 o5, H1 = H2 ∧ H2 a = some o5 ∧ BoxO o5 ∧ Kept a H1 H2 := ⟨_, o3, rfl, e3, B3, Kept.refl ⟨o3, e3, B3⟩⟩
        rw [hH2]
      all_goals
        obtain ⟨m, hm, m0, m36⟩ : ∃ m : Int, atI ([.int 26, .int 36, .int 36, .int 36] : List V) kd = some (.int m) ∧ 0 < m ∧ m ≤ 36 := by
          have : kd = 0 ∨ kd = 1 ∨ kd = 2 ∨ kd = 3 := by omega
          rcases this with rfl | rfl | rfl | rfl
          · exact ⟨26, atI_nat (j := 0) rfl, by decide, by decide⟩
          · exact ⟨36, atI_nat (j := 1) rfl, by decide, by decide⟩
          · exact ⟨36, atI_nat (j := 2) rfl, by decide, by decide⟩
          · exact ⟨36, atI_nat (j := 3) rfl, by decide, by decide⟩
        refine ⟨_, rfl, _, rfl, _, rfl, (by show 4 ≤ sizeLine; decide), fun p hp => ⟨_, rfl, p, _, kd, _, rfl, rfl, SqL.of upd_same, hm, a, o5, m, rfl, by rw [upd_ne (ne_of_none e5 hp)]; exact e5, B5, m0, by omega, fun q o6 q0 q1 B6 => ?_⟩⟩
        obtain ⟨d, hd, d128⟩ := sign_at SIGNS q0 (by have e : SIGNS.length = 36 := by decide +kernel
                                                     rw [e]; omega) asc_signs
        refine ⟨SIGNS, q, d, rfl, rfl, by decide +kernel, hd, _, _, rfl, rfl, ?_, ?_⟩
        · have e : (⟨#[d]⟩ : Str).length = 1 := rfl
          rw [e]
          have l := PySem.sizeLine_eq
          omega
        · exact ⟨_, _, rfl, by rw [len_snoc]; omega, asc_snoc za d128, kp.trans (kp5.trans ((Kept.refl ⟨o5, e5, B5⟩).new hp |>.trans (Kept.upd B6)))⟩
    · rintro σ H1 ⟨z, v, rfl, zl, za, kp⟩
      exact ⟨_, rfl, k z H1 (by omega) za kp⟩
end
end LL
namespace LL
open PySem PySem.Spec PyProof.Rows L2
def repV : V → Str
  | .int i => toString i
  | _ => "None"
theorem call_reprS {X : Cx} : CallR X (.builtin "repr") (fun xs H Q => ∃ x, xs = [x] ∧ ((∃ i : Int, x = .int i ∧ i.natAbs.log2 < 1920) ∨ x = .non) ∧ Q (.str (repV x)) H) := by
  intro pins s σ H xs us Q I r ⟨x, e, hx, q⟩
  subst e
  rcases hx with ⟨i, rfl, hi⟩ | rfl
  · exact SkE.call_repr_int pins s σ H _ us Q I r ⟨i, rfl, hi, q⟩
  · obtain ⟨u, rfl, r1⟩ := vals1 r
    cases (show u = Value.none from r1)
    exact PySem.P.repr_of_none ⟨.str _, H, I.tok _, ⟨_, rfl⟩, q⟩
theorem plain_log (z : Str) (most : Int) (h30 : most < 10 ^ 30) : (∃ i : Int, plainS z most = .int i ∧ i.natAbs.log2 < 1920) ∨ plainS z most = .non := by
  unfold plainS
  cases hp : plainOk z most with
  | false => exact .inr (if_neg Bool.false_ne_true)
  | true =>
    refine .inl ⟨_, if_pos rfl, ?_⟩
    unfold plainOk at hp
    simp only [Bool.and_eq_true, decide_eq_true_eq] at hp
    rw [Int.natAbs_natCast]
    have hv : NumText.digitsVal z.cps.toList < 10 ^ 30 := by have := hp.2.2; omega
    by_cases h0 : NumText.digitsVal z.cps.toList = 0
    · rw [h0]
      decide
    · exact Nat.lt_of_lt_of_le ((Nat.log2_lt (k := 100) h0).mpr (Nat.lt_trans hv (by decide))) (by decide)
/-- all but the table is kept -/
structure KeepT (tb : Addr) (H H' : Hp) : Prop where
  tab : GxR.TabG H' tb
  old : ∀ b o, b ≠ tb → H b = some o → H' b = some o
theorem KeepT.of {tb : Addr} {H H' : Hp} (h : GxR.Tabbed tb H H') : KeepT tb H H' := ⟨h.1, fun b o n e => by rw [h.2 b n]; exact e⟩
theorem KeepT.trans {tb : Addr} {H H1 H2 : Hp} (x : KeepT tb H H1) (y : KeepT tb H1 H2) : KeepT tb H H2 := ⟨y.tab, fun b o n e => y.old b o n (x.old b o n e)⟩
theorem KeepT.refl {tb : Addr} {H : Hp} (h : GxR.TabG H tb) : KeepT tb H H := ⟨h, fun _ _ _ e => e⟩
theorem KeepT.same {tb : Addr} {H H1 H2 : Hp} (x : KeepT tb H H1) (y : Same H1 H2) : KeepT tb H H2 := by
  obtain ⟨ps, e, t⟩ := x.tab
  exact ⟨⟨ps, y _ _ e, t⟩, fun b o n e => y b o (x.old b o n e)⟩
section
variable {P : Program} {w : World} {K : PySem.W.Frag} {mg : Str → Option Value} {base : Heap} {ow c tb : Addr} {tF tL tN tV : Tok}
def spTexts (tb : Addr) : Sp := fun vs H Q _ => ∃ z most, vs = [.str z, .int most] ∧ asc z ∧ z.length ≤ sizeLine - 1 ∧ 0 ≤ most ∧ most < 10 ^ 30 ∧ GxR.TabG H tb ∧
  ∀ H', KeepT tb H H' → Q (.bl true) H'
theorem ok_texts (D : Dn K mg "_law_texts_right" scLtextsright_st ["_law_text_here", "_law_most"]) (D0 : Defs K mg) (D1 : Laws1 K mg) (D2 : Laws2 K mg)
    (Dp : Dn K mg "plain_number" scplainnumber_st ["thing", "most"]) (T : Tx K mg ow tF tL tN tV) (hc : D0.is_written_of.fd.code = .ref c) (TB : GxR.TabB base mg c tb) :
    FnOk P w K mg base CX0 3 D.f D.fd ["_law_text_here", "_law_most"] (spTexts tb) := by
  have Gis_whole : FnOk P w K mg base CX0 1 D0.is_whole.f D0.is_whole.fd ["thing"] (spWhole K) := ok_whole D0 T
  have Gis_within : FnOk P w K mg base CX0 2 D0.is_within.f D0.is_within.fd ["thing", "low", "high"] (spWithin K) := ok_within D0 T
  have Gis_name : FnOk P w K mg base CX0 2 D0.is_name.f D0.is_name.fd ["thing"] (spName K tb nameOk) := ok_name D0 T hc TB
  have Gis_value : FnOk P w K mg base CX0 2 D0.is_value.f D0.is_value.fd ["thing"] (spName K tb valOk) := ok_value D0 T hc TB
  have Gplain_number : FnOk P w K mg base CX0 2 Dp.f Dp.fd ["thing", "most"] (spPlain K tb) := ok_plain D0 Dp T hc TB
  have G_law_name_due : FnOk P w K mg base CX0 2 D2._law_name_due.f D2._law_name_due.fd ["_law_text_here"] (spDue fun z => .bl (nameOk (.str z))) := ok_ndue D2 D1 T
  have G_law_value_due : FnOk P w K mg base CX0 2 D2._law_value_due.f D2._law_value_due.fd ["_law_text_here"] (spDue fun z => .bl (valOk (.str z))) := ok_vdue D2 D1 T
  have G_law_number_due : FnOk P w K mg base CX0 1 D2._law_number_due.f D2._law_number_due.fd ["_law_text_here", "_law_most"] spNum := ok_numdue D2 T
  have G_law_same : FnOk P w K mg base CX0 1 D1._law_same.f D1._law_same.fd ["_law_found", "_law_due"] (spSame K) := ok_same D1 T
  refine D.F.ok scLtextsright (fun vs H Q E h => ?_) (fun cdv A outer s H vs Q E hr h => ?_)
  · obtain ⟨z, m, rfl, _⟩ := h
    rfl
  · obtain ⟨z, most, rfl, za, zl, m0, m30, tab, k⟩ := h
    have sl : z.length ≤ sizeLine := by omega
    refine ⟨_, (pss_cons (ps_if (PW.pt (pw_or (pt_not (pt_val (pcall D1._law_same G_law_same hr (by decide) (by rfl) (pa_cons (pcall D0.is_name Gis_name hr (by decide) (by rfl) (pa_cons (pv 0) pa_nil)) (pa_cons (pcall D2._law_name_due G_law_name_due hr (by decide) (by rfl) (pa_cons (pv 0) pa_nil)) pa_nil))))) (pw_or1 (pt_not (pt_val (pcall D1._law_same G_law_same hr (by decide) (by rfl) (pa_cons (pcall D0.is_value Gis_value hr (by decide) (by rfl) (pa_cons (pv 0) pa_nil)) (pa_cons (pcall D2._law_value_due G_law_value_due hr (by decide) (by rfl) (pa_cons (pv 0) pa_nil)) pa_nil)))))))) (pss_one (ps_ret pe_bl)) pss_nil)
        (pss_cons (ps_if (PW.pt (pw_or (pt_not (pt_val (pcall D1._law_same G_law_same hr (by decide) (by rfl) (pa_cons (pcall D0.is_whole Gis_whole hr (by decide) (by rfl) (pa_cons (pv 0) pa_nil)) (pa_cons pe_bl pa_nil))))) (pw_or1 (pt_not (pt_val (pcall D1._law_same G_law_same hr (by decide) (by rfl) (pa_cons (pcall D0.is_within Gis_within hr (by decide) (by rfl) (pa_cons (pv 0) (pa_cons pe_int (pa_cons pe_int pa_nil)))) (pa_cons pe_bl pa_nil)))))))) (pss_one (ps_ret pe_bl)) pss_nil)
        (pss_cons (ps_if (pt_cmpR op_ne (pe_callB call_reprS (by rfl) T.b_repr (by decide +kernel) (pa_cons (pcall Dp Gplain_number hr (by decide) (by rfl) (pa_cons (pv 0) (pa_cons (pv 1) pa_nil))) pa_nil)) (pe_callB call_reprS (by rfl) T.b_repr (by decide +kernel) (pa_cons (pcall D2._law_number_due G_law_number_due hr (by decide) (by rfl) (pa_cons (pv 0) (pa_cons (pv 1) pa_nil))) pa_nil)) (nomark _)) (pss_one (ps_ret pe_bl)) pss_nil)
        (pss_one (ps_ret (pe_cmpR op_eq (pe_callB call_reprS (by rfl) T.b_repr (by decide +kernel) (pa_cons (pcall Dp Gplain_number hr (by decide) (by rfl) (pa_cons (pv 0) (pa_cons (pv 1) pa_nil))) pa_nil)) (pe_callB call_reprS (by rfl) T.b_repr (by decide +kernel) (pa_cons (pcall D2._law_number_due G_law_number_due hr (by decide) (by rfl) (pa_cons (pv 0) (pa_cons (pv 1) pa_nil))) pa_nil)) (nomark _))))))), ?_⟩
    refine ⟨_, rfl, _, rfl, .str z, sl, tab, fun H1 t1 => ?_⟩
    have k1 := KeepT.of t1
    refine ⟨_, rfl, z, rfl, za, zl, fun H2 s2 => ?_⟩
    have k2 := k1.same s2
    refine ⟨_, _, rfl, ?_⟩
    rw [decide_eq_true rfl]
    refine ⟨_, rfl, iteF ?_⟩
    refine ⟨_, rfl, _, rfl, .str z, sl, k2.tab, fun H3 t3 => ?_⟩
    have k3 := k2.trans (KeepT.of t3)
    refine ⟨_, rfl, z, rfl, za, zl, fun H4 s4 => ?_⟩
    have k4 := k3.same s4
    refine ⟨_, _, rfl, ?_⟩
    rw [decide_eq_true rfl]
    refine ⟨_, rfl, iteF ?_⟩
    refine ⟨_, rfl, _, rfl, .str z, _, _, rfl, ⟨_, rfl, iteF ?_⟩⟩
    refine ⟨_, rfl, _, _, _, rfl, .str z, _, _, rfl, ⟨_, rfl, iteF ?_⟩⟩
    refine ⟨_, rfl, _, rfl, _, _, rfl, .str z, sl, m0, m30, k4.tab, fun H5 t5 => ?_⟩
    have k5 := k4.trans (KeepT.of t5)
    refine ⟨_, rfl, plain_log z most m30, ?_⟩
    refine ⟨_, rfl, _, rfl, z, most, rfl, za, zl, fun H6 s6 => ?_⟩
    have k6 := k5.same s6
    refine ⟨_, rfl, plain_log z most m30, rfl, _, rfl, ?_⟩
    have e : decide (V.str (repV (plainV (.str z) most)) = V.str (repV (plainS z most))) = true := decide_eq_true rfl
    rw [e]
    refine iteF ?_
    refine ⟨_, rfl, _, rfl, _, _, rfl, .str z, sl, m0, m30, k6.tab, fun H7 t7 => ?_⟩
    have k7 := k6.trans (KeepT.of t7)
    refine ⟨_, rfl, plain_log z most m30, ?_⟩
    refine ⟨_, rfl, _, rfl, z, most, rfl, za, zl, fun H8 s8 => ?_⟩
    have k8 := k7.same s8
    refine ⟨_, rfl, plain_log z most m30, rfl, ?_⟩
    rw [e]
    exact k H8 k8
end
end LL
namespace LL
open PySem PySem.Spec PyProof.Rows L2
abbrev scLnumbersright_st : Stmt := top 24
abbrev scLnumbersright_N : List Str := ["_law_box_here", "_law_text_here", "_law_low", "_law_high", "_law_number", "_law_thing"]
theorem scLnumbersright : FnScope scLnumbersright_N ["_law_box_here", "_law_text_here"] (defScope scLnumbersright_st) := ⟨rfl, rfl, rfl, by decide +kernel, rfl, by decide +kernel, by decide +kernel⟩
theorem PEweak {X : Cx} {e : Expr} {t u : TE} (h : PE X e t) (imp : ∀ σ H Q, u σ H Q → t σ H Q) : PE X e u :=
  ⟨fun pins s σ H Q I q => h.run pins s σ H Q I (imp σ H Q q)⟩
/-- a <= b <= c of three ints in slots -/
theorem pe_chainI {X : Cx} {i j k : Nat} {x y z : Str} {p1 p2 p3 pos : Pos} (h1 : X.N[i]? = some x := by rfl) (h2 : X.N[j]? = some y := by rfl) (h3 : X.N[k]? = some z := by rfl)
    (v1 : Vis X.env.scope x := by exact Or.inl rfl) (v2 : Vis X.env.scope y := by exact Or.inl rfl) (v3 : Vis X.env.scope z := by exact Or.inl rfl)
    (d1 : (x == ("__debug__" : Str)) = false := by decide) (d2 : (y == ("__debug__" : Str)) = false := by decide) (d3 : (z == ("__debug__" : Str)) = false := by decide)
    (c1 : (x == ("__classdict__" : Str)) = false := by decide) (c2 : (y == ("__classdict__" : Str)) = false := by decide) (c3 : (z == ("__classdict__" : Str)) = false := by decide) :
    PE X (.Compare (.Name x p1) [.LtE, .LtE] [.Name y p2, .Name z p3] pos) (fun σ H Q => ∃ a b c : Int, σ[i]? = some (some (.int a)) ∧ σ[j]? = some (some (.int b)) ∧ σ[k]? = some (some (.int c)) ∧
      Q (.bl (decide (a ≤ b) && decide (b ≤ c))) H) := by
  refine PEweak (pe_chain op_le op_le (pe_var h1 v1 d1 c1) (pe_var h2 v2 d2 c2) (pe_var h3 v3 d3 c3)) fun σ H Q ⟨a, b, c, e1, e2, e3, q⟩ => ?_
  refine ⟨_, e1, _, e2, _, _, rfl, rfl, _, rfl, ?_⟩
  by_cases h : a ≤ b
  · rw [decide_eq_true h] at q ⊢
    exact iteT ⟨_, e3, _, _, rfl, rfl, q⟩
  · rw [decide_eq_false h] at q ⊢
    exact iteF q
/-- the box at a and the table may have changed -/
structure KeepB (a tb : Addr) (H H' : Hp) : Prop where
  box : ∃ o, H' a = some o ∧ BoxO o
  tab : GxR.TabG H' tb
  old : ∀ b o, b ≠ a → b ≠ tb → H b = some o → H' b = some o
theorem KeepB.trans {a tb : Addr} {H H1 H2 : Hp} (x : KeepB a tb H H1) (y : KeepB a tb H1 H2) : KeepB a tb H H2 :=
  ⟨y.box, y.tab, fun b o n m e => y.old b o n m (x.old b o n m e)⟩
theorem box_tab {a tb : Addr} {H : Hp} {o : HO} (h : H a = some o) (b : BoxO o) (t : GxR.TabG H tb) : a ≠ tb := by
  rintro rfl
  obtain ⟨ps, e, _⟩ := t
  obtain ⟨x, y, z, rfl, _⟩ := b
  rw [h] at e
  cases e
theorem KeepB.ofBox {a tb : Addr} {H H' : Hp} (t : GxR.TabG H tb) (n : a ≠ tb) (x : Kept a H H') : KeepB a tb H H' := by
  obtain ⟨ps, e, q⟩ := t
  exact ⟨x.box, ⟨ps, x.old tb _ n.symm e, q⟩, fun b o h _ z => x.old b o h z⟩
theorem KeepB.ofTab {a tb : Addr} {H H' : Hp} (hb : ∃ o, H a = some o ∧ BoxO o) (n : a ≠ tb) (x : KeepT tb H H') : KeepB a tb H H' := by
  obtain ⟨o, e, q⟩ := hb
  exact ⟨⟨o, x.old a o n e, q⟩, x.tab, fun b o _ h z => x.old b o h z⟩
theorem KeepT.new {tb p : Addr} {H H1 : Hp} {u : HO} (x : KeepT tb H H1) (hp : H1 p = none) : KeepT tb H (upd H1 p u) := x.same (same_new (Same.refl _) hp)
theorem within_no {x : V} (h : isInt x = false) (lo hi : Int) : within x lo hi = false := by
  cases x with
  | int i => cases h
  | _ => rfl
theorem name_no {x : V} (h : isStr x = false) : nameOk x = false := by
  cases x with
  | str i => cases h
  | _ => rfl
theorem val_no {x : V} (h : isStr x = false) : valOk x = false := by
  cases x with
  | str i => cases h
  | _ => rfl
theorem plainV_no {x : V} (h : isStr x = false) (m : Int) : plainV x m = .non := by
  cases x with
  | str i => cases h
  | _ => rfl
theorem short_no {x : V} (h : isStr x = false) : short x := by
  cases x with
  | str i => cases h
  | _ => exact trivial
section
variable {P : Program} {w : World} {K : PySem.W.Frag} {mg : Str → Option Value} {base : Heap} {ow c tb : Addr} {tF tL tN tV : Tok}
def spNums (tb : Addr) : Sp := fun vs H Q _ => ∃ (a : Addr) (o : HO) (z : Str), vs = [.ref a, .str z] ∧ H a = some o ∧ BoxO o ∧ GxR.TabG H tb ∧
  ∀ H', KeepB a tb H H' → Q (.bl true) H'
theorem ok_nums (D : Dn K mg "_law_numbers_right" scLnumbersright_st ["_law_box_here", "_law_text_here"]) (D0 : Defs K mg) (D1 : Laws1 K mg)
    (Dp : Dn K mg "plain_number" scplainnumber_st ["thing", "most"]) (T : Tx K mg ow tF tL tN tV) (hc : D0.is_written_of.fd.code = .ref c) (TB : GxR.TabB base mg c tb) :
    FnOk P w K mg base CX0 3 D.f D.fd ["_law_box_here", "_law_text_here"] (spNums tb) := by
  have Gis_whole : FnOk P w K mg base CX0 1 D0.is_whole.f D0.is_whole.fd ["thing"] (spWhole K) := ok_whole D0 T
  have Gis_within : FnOk P w K mg base CX0 2 D0.is_within.f D0.is_within.fd ["thing", "low", "high"] (spWithin K) := ok_within D0 T
  have Gis_name : FnOk P w K mg base CX0 2 D0.is_name.f D0.is_name.fd ["thing"] (spName K tb nameOk) := ok_name D0 T hc TB
  have Gis_value : FnOk P w K mg base CX0 2 D0.is_value.f D0.is_value.fd ["thing"] (spName K tb valOk) := ok_value D0 T hc TB
  have Gplain_number : FnOk P w K mg base CX0 2 Dp.f Dp.fd ["thing", "most"] (spPlain K tb) := ok_plain D0 Dp T hc TB
  have G_law_take : FnOk P w K mg base CX0 1 D1._law_take.f D1._law_take.fd ["_law_box_here", "_law_many"] spTake := ok_take D1 T
  have G_law_same : FnOk P w K mg base CX0 1 D1._law_same.f D1._law_same.fd ["_law_found", "_law_due"] (spSame K) := ok_same D1 T
  refine D.F.ok scLnumbersright (fun vs H Q E h => ?_) (fun cdv A outer s H vs Q E hr h => ?_)
  · obtain ⟨a, o, z, rfl, _⟩ := h
    rfl
  · obtain ⟨a, o, z, rfl, ha, hB, tab, k⟩ := h
    have nat : a ≠ tb := box_tab ha hB tab
    refine ⟨_, (pss_cons (ps_set (i := 2) scLnumbersright.nd rfl (Or.inl rfl) (pe_op op_sub (pcall D1._law_take G_law_take hr (by decide) (by rfl) (pa_cons (pv 0) (pa_cons pe_int pa_nil))) pe_int))
        (pss_cons (ps_set (i := 3) scLnumbersright.nd rfl (Or.inl rfl) (pe_op op_sub (pe_op op_add (pv 2) (pcall D1._law_take G_law_take hr (by decide) (by rfl) (pa_cons (pv 0) (pa_cons pe_int pa_nil)))) pe_int))
        (pss_cons (ps_set (i := 4) scLnumbersright.nd rfl (Or.inl rfl) (pe_op op_sub (pe_op op_add (pv 2) (pcall D1._law_take G_law_take hr (by decide) (by rfl) (pa_cons (pv 0) (pa_cons pe_int pa_nil)))) pe_int))
        (pss_cons (ps_if (PW.pt (pw_or (pt_not (pt_val (pcall D1._law_same G_law_same hr (by decide) (by rfl) (pa_cons (pcall D0.is_whole Gis_whole hr (by decide) (by rfl) (pa_cons (pv 4) pa_nil)) (pa_cons pe_bl pa_nil))))) (pw_or1 (pt_not (pt_val (pcall D1._law_same G_law_same hr (by decide) (by rfl) (pa_cons (pcall D0.is_within Gis_within hr (by decide) (by rfl) (pa_cons (pv 4) (pa_cons (pv 2) (pa_cons (pv 3) pa_nil)))) (pa_cons (pe_chainI (i := 2) (j := 4) (k := 3)) pa_nil)))))))) (pss_one (ps_ret pe_bl)) pss_nil)
        (pss_cons (ps_if (pt_not (pt_val (pcall D1._law_same G_law_same hr (by decide) (by rfl) (pa_cons (pcall D0.is_within Gis_within hr (by decide) (by rfl) (pa_cons (pv 4) (pa_cons (pv 2) (pa_cons (pv 3) pa_nil)))) (pa_cons (pe_chainI (i := 2) (j := 4) (k := 3)) pa_nil))))) (pss_one (ps_ret pe_bl)) pss_nil)
        (pss_cons (ps_for PassesOwn.never rfl (pi_list (pe_lst (pa_cons pe_non (pa_cons pe_bl (pa_cons pe_bl (pa_cons (pe_lst (pa_cons (pv 4) pa_nil)) (pa_cons (pe_tup (pa_cons (pv 4) pa_nil)) (pa_cons (pe_disp (pps_cons (pv 1) (pv 4) pps_nil) (by rfl) (by rfl) (fun z => by cases z) (by decide)) (pa_cons (pe_lst (pa_cons (pv 1) pa_nil)) pa_nil))))))))) (pg_name (i := 5) scLnumbersright.nd rfl (Or.inl rfl)) (pss_cons (ps_if (PW.pt (pw_or (pt_not (pt_val (pcall D1._law_same G_law_same hr (by decide) (by rfl) (pa_cons (pcall D0.is_whole Gis_whole hr (by decide) (by rfl) (pa_cons (pv 5) pa_nil)) (pa_cons pe_bl pa_nil))))) (pw_or1 (pt_not (pt_val (pcall D1._law_same G_law_same hr (by decide) (by rfl) (pa_cons (pcall D0.is_within Gis_within hr (by decide) (by rfl) (pa_cons (pv 5) (pa_cons (pe_un un_neg pe_int) (pa_cons pe_int pa_nil)))) (pa_cons pe_bl pa_nil)))))))) (pss_one (ps_ret pe_bl)) pss_nil)
        (pss_cons (ps_if (PW.pt (pw_or (pt_not (pt_val (pcall D1._law_same G_law_same hr (by decide) (by rfl) (pa_cons (pcall D0.is_name Gis_name hr (by decide) (by rfl) (pa_cons (pv 5) pa_nil)) (pa_cons pe_bl pa_nil))))) (pw_or1 (pt_not (pt_val (pcall D1._law_same G_law_same hr (by decide) (by rfl) (pa_cons (pcall D0.is_value Gis_value hr (by decide) (by rfl) (pa_cons (pv 5) pa_nil)) (pa_cons pe_bl pa_nil)))))))) (pss_one (ps_ret pe_bl)) pss_nil)
        (pss_one (ps_if (pt_cmpR op_notN (pcall Dp Gplain_number hr (by decide) (by rfl) (pa_cons (pv 5) (pa_cons pe_int pa_nil))) pe_non (nomark _)) (pss_one (ps_ret pe_bl)) pss_nil)))))
        (pss_one (ps_ret (pe_and (pcall D1._law_same G_law_same hr (by decide) (by rfl) (pa_cons (pcall D0.is_name Gis_name hr (by decide) (by rfl) (pa_cons (pv 4) pa_nil)) (pa_cons pe_bl pa_nil))) (pe_and (pcall D1._law_same G_law_same hr (by decide) (by rfl) (pa_cons (pcall D0.is_value Gis_value hr (by decide) (by rfl) (pa_cons (pv 4) pa_nil)) (pa_cons pe_bl pa_nil))) (pe_one (pe_cmpR op_isN (pcall Dp Gplain_number hr (by decide) (by rfl) (pa_cons (pv 4) (pa_cons pe_int pa_nil))) pe_non (nomark _))))))))))))), ?_⟩
    refine ⟨_, rfl, a, o, 500, rfl, ha, hB, by decide, by decide, fun r1 o1 _ _ B1 => ⟨_, _, rfl, rfl, ?_⟩⟩
    refine ⟨_, rfl, _, rfl, a, o1, 7, rfl, upd_same, B1, by decide, by decide, fun r2 o2 _ _ B2 => ⟨_, _, rfl, rfl, _, _, rfl, rfl, ?_⟩⟩
    refine ⟨_, rfl, _, rfl, a, o2, 9, rfl, upd_same, B2, by decide, by decide, fun r3 o3 _ _ B3 => ⟨_, _, rfl, rfl, _, _, rfl, rfl, ?_⟩⟩
    have e1 : ∀ n low high, within (.int n) low high = (decide (low ≤ n) && decide (n ≤ high)) := fun _ _ _ => rfl
    rw [upd_upd, upd_upd]
    have kb : KeepB a tb H (upd H a o3) := KeepB.ofBox tab nat (Kept.upd B3)
    have hb3 : (upd H a o3) a = some o3 := upd_same
    generalize hH1 : upd H a o3 = H1 at kb hb3 ⊢
    refine ⟨_, rfl, _, rfl, .int _, true, true, rfl, ⟨_, rfl, iteF ?_⟩⟩
    refine ⟨_, rfl, _, rfl, _, rfl, _, _, _, rfl, .int _, ⟨_, _, _, rfl, rfl, rfl, _, _, rfl, ?_⟩⟩
    rw [e1, decide_eq_true rfl]
    refine ⟨_, rfl, iteF ?_⟩
    refine ⟨_, rfl, _, rfl, _, rfl, _, _, _, rfl, .int _, ⟨_, _, _, rfl, rfl, rfl, _, _, rfl, ?_⟩⟩
    rw [e1, decide_eq_true rfl]
    refine ⟨_, rfl, iteF ?_⟩
    -- the things
    refine ⟨_, rfl, (by show 1 ≤ sizeLine; decide), fun p1 h1 => ⟨_, rfl, (by show 1 ≤ sizeLine; decide), fun p2 h2 => ?_⟩⟩
    refine fun p3 h3 => ⟨_, rfl, _, rfl, upd_same, [(Sum.inr z, .int _)], rfl, (by show 1 ≤ 15; decide), ?_⟩
    refine ⟨_, rfl, (by show 1 ≤ sizeLine; decide), fun p4 h4 => ⟨(by show 7 ≤ sizeLine; decide), fun p5 h5 => ?_⟩⟩
    have sA : Same (upd H1 p1 (.lst [.int (r1 - 250 + r3 - 3)])) (upd (upd H1 p1 (.lst [.int (r1 - 250 + r3 - 3)])) p2 (.tup [.int (r1 - 250 + r3 - 3)])) := same_new (Same.refl _) h2
    have sB : Same (upd (upd H1 p1 (.lst [.int (r1 - 250 + r3 - 3)])) p2 (.tup [.int (r1 - 250 + r3 - 3)])) (upd (upd (upd (upd H1 p1 (.lst [.int (r1 - 250 + r3 - 3)])) p2 (.tup [.int (r1 - 250 + r3 - 3)])) p3 (.dK [])) p3 (.dK (mergeK [] [(Sum.inr z, .int (r1 - 250 + r3 - 3))]))) := by
      rw [upd_upd]
      exact same_new (Same.refl _) h3
    have f1 : (upd H1 p1 (.lst [.int (r1 - 250 + r3 - 3)])) p1 = some (.lst [.int (r1 - 250 + r3 - 3)]) := upd_same
    have f2 : (upd (upd H1 p1 (.lst [.int (r1 - 250 + r3 - 3)])) p2 (.tup [.int (r1 - 250 + r3 - 3)])) p2 = some (.tup [.int (r1 - 250 + r3 - 3)]) := upd_same
    have f3 : (upd (upd (upd (upd H1 p1 (.lst [.int (r1 - 250 + r3 - 3)])) p2 (.tup [.int (r1 - 250 + r3 - 3)])) p3 (.dK [])) p3 (.dK (mergeK [] [(Sum.inr z, .int (r1 - 250 + r3 - 3))]))) p3 = some (.dK (mergeK [] [(Sum.inr z, .int (r1 - 250 + r3 - 3))])) := upd_same
    have s1 : Same H1 (upd H1 p1 (.lst [.int (r1 - 250 + r3 - 3)])) := same_new (Same.refl _) h1
    have s3 := (s1.trans sA).trans sB
    have f1 := sB _ _ (sA _ _ f1)
    have f2 := sB _ _ f2
    change (upd (upd (upd (upd H1 p1 (.lst [.int (r1 - 250 + r3 - 3)])) p2 (.tup [.int (r1 - 250 + r3 - 3)])) p3 (.dK [])) p3 (.dK (mergeK [] [(Sum.inr z, .int (r1 - 250 + r3 - 3))]))) p4 = none at h4
    change (upd (upd (upd (upd (upd H1 p1 (.lst [.int (r1 - 250 + r3 - 3)])) p2 (.tup [.int (r1 - 250 + r3 - 3)])) p3 (.dK [])) p3 (.dK (mergeK [] [(Sum.inr z, .int (r1 - 250 + r3 - 3))]))) p4 (.lst [.str z])) p5 = none at h5
    have s4 := same_new (u := .lst [.str z]) (Same.refl _) h4
    have s5 := same_new (u := .lst [.non, .bl true, .bl false, .ref p1, .ref p2, .ref p3, .ref p4]) (Same.refl _) h5
    have f4 : (upd (upd (upd (upd (upd H1 p1 (.lst [.int (r1 - 250 + r3 - 3)])) p2 (.tup [.int (r1 - 250 + r3 - 3)])) p3 (.dK [])) p3 (.dK (mergeK [] [(Sum.inr z, .int (r1 - 250 + r3 - 3))]))) p4 (.lst [.str z])) p4 = some (.lst [.str z]) := upd_same
    have f1 := s5 _ _ (s4 _ _ f1)
    have f2 := s5 _ _ (s4 _ _ f2)
    have f3 := s5 _ _ (s4 _ _ f3)
    have f4 := s5 _ _ f4
    have f5 : (upd (upd (upd (upd (upd (upd H1 p1 (.lst [.int (r1 - 250 + r3 - 3)])) p2 (.tup [.int (r1 - 250 + r3 - 3)])) p3 (.dK [])) p3 (.dK (mergeK [] [(Sum.inr z, .int (r1 - 250 + r3 - 3))]))) p4 (.lst [.str z])) p5 (.lst [.non, .bl true, .bl false, .ref p1, .ref p2, .ref p3, .ref p4])) p5 = some (.lst [.non, .bl true, .bl false, .ref p1, .ref p2, .ref p3, .ref p4]) := upd_same
    have s9 := (s3.trans s4).trans s5
    refine ⟨p5, rfl, ⟨_, SqL.of upd_same⟩, ?_⟩
    generalize hG : (upd (upd (upd (upd (upd (upd H1 p1 (.lst [.int (r1 - 250 + r3 - 3)])) p2 (.tup [.int (r1 - 250 + r3 - 3)])) p3 (.dK [])) p3 (.dK (mergeK [] [(Sum.inr z, .int (r1 - 250 + r3 - 3))]))) p4 (.lst [.str z])) p5 (.lst [.non, .bl true, .bl false, .ref p1, .ref p2, .ref p3, .ref p4])) = G at f1 f2 f3 f4 f5 s9 ⊢
    have kG : KeepT tb H1 G := (KeepT.refl kb.tab).same s9
    obtain ⟨ps, tG, tri⟩ := id kG.tab
    have n1 : p1 ≠ tb := ne_of f1 tG (by intro q; cases q)
    have n2 : p2 ≠ tb := ne_of f2 tG (by intro q; cases q)
    have n3 : p3 ≠ tb := ne_of f3 tG (by intro q; cases q)
    have n4 : p4 ≠ tb := ne_of f4 tG (by intro q; cases q)
    have n5 : p5 ≠ tb := ne_of f5 tG (by intro q; cases q)
    have things : ∀ x ∈ ([.non, .bl true, .bl false, .ref p1, .ref p2, .ref p3, .ref p4] : List V), ∀ H', KeepT tb G H' → Thing K H' x ∧ isInt x = false ∧ isStr x = false := by
      intro x hx H' q
      simp only [List.mem_cons, List.not_mem_nil, or_false] at hx
      rcases hx with rfl | rfl | rfl | rfl | rfl | rfl | rfl
      · exact ⟨.non, rfl, rfl⟩
      · exact ⟨.bl _, rfl, rfl⟩
      · exact ⟨.bl _, rfl, rfl⟩
      · exact ⟨.lst (.base (.lst (q.old _ _ n1 f1))), rfl, rfl⟩
      · exact ⟨.tup (.base (.tup (q.old _ _ n2 f2))), rfl, rfl⟩
      · exact ⟨.dct (.base (.dK (q.old _ _ n3 f3))), rfl, rfl⟩
      · exact ⟨.lst (.base (.lst (q.old _ _ n4 f4))), rfl, rfl⟩
    refine for_list (K := K) (a := p5) (xs := [.non, .bl true, .bl false, .ref p1, .ref p2, .ref p3, .ref p4]) (fun i σ H' => ∃ v, σ = [some (.ref a), some (.str z), some (.int (r1 - 250)), some (.int (r1 - 250 + r2 - 1)), some (.int (r1 - 250 + r3 - 3)), v] ∧ KeepT tb G H')
      ⟨none, rfl, KeepT.refl kG.tab⟩ (fun i σ H' _ ⟨_, _, q⟩ => SqL.of (q.old _ _ n5 f5)) ?_ ?_
    · rintro i x σ H2 hi ⟨v, rfl, q⟩
      obtain ⟨th, hI, hS⟩ := things x (List.mem_of_getElem? hi) H2 q
      refine ⟨_, rfl, x, rfl, th, isInt x, false, rfl, ?_⟩
      rw [hI]
      refine ⟨_, rfl, iteF ?_⟩
      refine ⟨_, rfl, 9, rfl, x, _, _, rfl, th, within x (-9) 9, false, rfl, ?_⟩
      rw [within_no hI]
      refine ⟨_, rfl, iteF ?_⟩
      refine ⟨_, rfl, x, rfl, th, short_no hS, q.tab, fun H3 t3 => ⟨nameOk x, false, rfl, ?_⟩⟩
      have q3 := q.trans (KeepT.of t3)
      rw [name_no hS]
      refine ⟨_, rfl, iteF ?_⟩
      refine ⟨_, rfl, x, rfl, (things x (List.mem_of_getElem? hi) H3 q3).1, short_no hS, q3.tab, fun H4 t4 => ⟨valOk x, false, rfl, ?_⟩⟩
      have q4 := q3.trans (KeepT.of t4)
      rw [val_no hS]
      refine ⟨_, rfl, iteF ?_⟩
      refine ⟨_, rfl, x, 5, rfl, (things x (List.mem_of_getElem? hi) H4 q4).1, short_no hS, by decide, by decide, q4.tab, fun H5 t5 => ⟨rfl, _, rfl, ?_⟩⟩
      have q5 := q4.trans (KeepT.of t5)
      rw [plainV_no hS]
      exact iteF ⟨_, rfl, q5⟩
    · rintro σ H2 ⟨v, rfl, q⟩
      refine ⟨_, rfl, _, rfl, .int _, trivial, q.tab, fun H3 t3 => ⟨false, false, rfl, ?_⟩⟩
      have q3 := q.trans (KeepT.of t3)
      refine ⟨_, rfl, iteT ?_⟩
      refine ⟨_, rfl, _, rfl, .int _, trivial, q3.tab, fun H4 t4 => ⟨false, false, rfl, ?_⟩⟩
      have q4 := q3.trans (KeepT.of t4)
      refine ⟨_, rfl, iteT ?_⟩
      refine ⟨_, rfl, _, 9, rfl, .int _, trivial, by decide, by decide, q4.tab, fun H5 t5 => ⟨rfl, ?_⟩⟩
      have q5 := q4.trans (KeepT.of t5)
      exact k H5 (kb.trans (KeepB.ofTab kb.box nat (kG.trans q5)))
end
end LL
namespace LL
open PySem PySem.Spec PyProof.Rows L2
abbrev sclaw_st : Stmt := top 25
abbrev sclaw_N : List Str := ["_law_script", "_law_k", "_law_box_here", "_law_most", "_law_far", "_law_own_here", "_law_texts", "_law_text_here"]
theorem sclaw : FnScope sclaw_N ["_law_script"] (defScope sclaw_st) := ⟨rfl, rfl, rfl, by decide +kernel, rfl, by decide +kernel, by decide +kernel⟩
theorem foldl_size : ∀ (n : Nat) (xs acc : Array Nat), ((List.replicate n xs).foldl (· ++ ·) acc).size = acc.size + n * xs.size
  | 0, xs, acc => by simp
  | n + 1, xs, acc => by
    rw [List.replicate_succ, List.foldl_cons, foldl_size n xs (acc ++ xs), Array.size_append, Nat.succ_mul]
    omega
theorem op_mulS {X : Cx} : OpR X (binaryOp .Mult) (fun x y H Q => ∃ (z : Str) (n : Int), x = .str z ∧ y = .int n ∧ z.length = 1 ∧ 2 ≤ n ∧ n ≤ 100000 ∧
    ∀ z' : Str, (z'.length : Int) = n → Q (.str z') H) := by
  intro pins s σ H x y v u Q I rx ry h
  obtain ⟨z, n, rfl, rfl, z1, n2, n5, q⟩ := h
  obtain ⟨t, rfl⟩ := rx
  obtain ⟨t', rfl⟩ := ry
  refine PySem.P.mul_str ?_ ?_ ?_ ?_
  · rw [decide_eq_false (by omega), decide_eq_false (by omega)]
    rfl
  · intro _ _ h
    rw [z1] at h
    have h2 : (1 : Int) ≤ (2 ^ 63 - 1) / n := (Int.le_ediv_iff_mul_le (by omega)).mpr (by omega)
    omega
  · intro _ _
    rw [z1]
    have l := PySem.sizeLine_eq
    exact decide_eq_false (by omega)
  · rw [if_neg (by omega), if_neg (by simp [z1]; omega)]
    have e : ((⟨(List.replicate n.toNat z.cps).foldl (· ++ ·) #[]⟩ : Str).length : Int) = n := by
      show (((List.replicate n.toNat z.cps).foldl (· ++ ·) #[]).size : Int) = n
      rw [foldl_size, show z.cps.size = 1 from z1]
      simp
      omega
    have l := PySem.sizeLine_eq
    exact ⟨by omega, ⟨.str _, H, I.tok _, ⟨_, rfl⟩, q _ e⟩⟩
/-- what is held through a turn: the box at p, the table, some new lists -/
structure Held (tb p : Addr) (H1 Hc : Hp) (L : List (Addr × HO)) : Prop where
  kt : KeepT tb H1 Hc
  box : ∃ o, Hc p = some o ∧ BoxO o
  pn : H1 p = none
  ls : ∀ x ∈ L, Hc x.1 = some x.2 ∧ x.1 ≠ p ∧ x.1 ≠ tb
theorem Held.ne {tb p : Addr} {H1 Hc : Hp} {L : List (Addr × HO)} (h : Held tb p H1 Hc L) : p ≠ tb := by
  obtain ⟨o, e, b⟩ := h.box
  exact box_tab e b h.kt.tab
theorem Held.keepB {tb p : Addr} {H1 Hc Hd : Hp} {L : List (Addr × HO)} (h : Held tb p H1 Hc L) (k : KeepB p tb Hc Hd) : Held tb p H1 Hd L :=
  ⟨⟨k.tab, fun b o n e => k.old b o (fun q => by rw [q, h.pn] at e; cases e) n (h.kt.old b o n e)⟩, k.box, h.pn, fun x hx => by
    obtain ⟨a, b, c⟩ := h.ls x hx
    exact ⟨k.old _ _ b c a, b, c⟩⟩
theorem Held.same {tb p : Addr} {H1 Hc Hd : Hp} {L : List (Addr × HO)} (h : Held tb p H1 Hc L) (k : Same Hc Hd) : Held tb p H1 Hd L := by
  obtain ⟨o, e, b⟩ := h.box
  exact ⟨h.kt.same k, ⟨o, k _ _ e, b⟩, h.pn, fun x hx => by
    obtain ⟨a, b, c⟩ := h.ls x hx
    exact ⟨k _ _ a, b, c⟩⟩
theorem Held.keepT {tb p : Addr} {H1 Hc Hd : Hp} {L : List (Addr × HO)} (h : Held tb p H1 Hc L) (k : KeepT tb Hc Hd) : Held tb p H1 Hd L :=
  h.keepB (KeepB.ofTab h.box h.ne k)
theorem Held.box' {tb p : Addr} {H1 Hc : Hp} {L : List (Addr × HO)} {o : HO} (h : Held tb p H1 Hc L) (b : BoxO o) : Held tb p H1 (upd Hc p o) L :=
  h.keepB (KeepB.ofBox h.kt.tab h.ne (Kept.upd b))
theorem Held.kept {tb p : Addr} {H1 Hc Hd : Hp} {L : List (Addr × HO)} (h : Held tb p H1 Hc L) (k : Kept p Hc Hd) : Held tb p H1 Hd L :=
  h.keepB (KeepB.ofBox h.kt.tab h.ne k)
theorem Held.add {tb p q : Addr} {H1 Hc : Hp} {L : List (Addr × HO)} {xs : List V} (h : Held tb p H1 Hc L) (hq : Hc q = none) : Held tb p H1 (upd Hc q (.lst xs)) ((q, .lst xs) :: L) := by
  have s := same_new (u := .lst xs) (Same.refl _) hq
  have h2 := h.same s
  refine ⟨h2.kt, h2.box, h2.pn, fun x hx => ?_⟩
  rcases List.mem_cons.mp hx with rfl | hx
  · refine ⟨upd_same, ?_, ?_⟩
    · obtain ⟨o, e, _⟩ := h.box
      exact (ne_of_none e hq).symm
    · obtain ⟨ps, e, _⟩ := h.kt.tab
      exact (ne_of_none e hq).symm
  · exact h2.ls x hx
theorem sq_keep {K : PySem.W.Frag} {tb a : Addr} {H H1 : Hp} {xs : List V} (h : SqL K H a xs) (t : GxR.TabG H tb) (k : KeepT tb H H1) : SqL K H1 a xs := by
  obtain ⟨ps, e, _⟩ := t
  rcases h with (h | ⟨o, h⟩) | h
  · exact .inl (.inl (k.old _ _ (ne_of h e (by intro q; cases q)) h))
  · exact .inl (.inr ⟨o, k.old _ _ (ne_of h e (by intro q; cases q)) h⟩)
  · exact .inr h
def nlA (t : Str) : Str := t ++ "\n"
/-- a text that may be asked of -/
def TextOk (v : V) : Prop := ∃ z, v = .str z ∧ asc z ∧ z.length ≤ 100
theorem own_ok : ∀ x ∈ ownW, asc x ∧ x.length ≤ 8 ∧ asc (Txt.upper x) ∧ (Txt.upper x).length ≤ 8 := by
  unfold asc
  decide +kernel
theorem asc_num (m : Nat) : asc (Str.ofString (toString ((m : Nat) : Int))) := by
  intro c hc
  have e : (Str.ofString (toString ((m : Nat) : Int))).cps.toList = TL.numL m := TL.tl_num m
  rw [e] at hc
  have := TL.numL_digits m c hc
  omega
section
variable {P : Program} {w : World} {K : PySem.W.Frag} {mg : Str → Option Value} {base : Heap} {ow c tb : Addr} {tF tL tN tV : Tok}
def spLaw (K : PySem.W.Frag) (tb : Addr) : Sp := fun vs H Q _ => ∃ (a : Addr) (ns : List Int), vs = [.ref a] ∧ SqL K H a (ns.map V.int) ∧ ns.length ≤ 63 ∧ GxR.TabG H tb ∧ ∀ H', Q (.bl true) H'
theorem ok_law (D : Dn K mg "law" sclaw_st ["_law_script"]) (Dt : Dn K mg "_law_texts_right" scLtextsright_st ["_law_text_here", "_law_most"]) (Dn : Dn K mg "_law_numbers_right" scLnumbersright_st ["_law_box_here", "_law_text_here"])
    (D0 : Defs K mg) (D1 : Laws1 K mg) (D2 : Laws2 K mg) (Dp : LL.Dn K mg "plain_number" scplainnumber_st ["thing", "most"])
    (T : Tx K mg ow tF tL tN tV) (hc : D0.is_written_of.fd.code = .ref c) (TB : GxR.TabB base mg c tb) :
    FnOk P w K mg base CX0 4 D.f D.fd ["_law_script"] (spLaw K tb) := by
  have Gis_name : FnOk P w K mg base CX0 2 D0.is_name.f D0.is_name.fd ["thing"] (spName K tb nameOk) := ok_name D0 T hc TB
  have Gis_value : FnOk P w K mg base CX0 2 D0.is_value.f D0.is_value.fd ["thing"] (spName K tb valOk) := ok_value D0 T hc TB
  have Gplain_number : FnOk P w K mg base CX0 2 Dp.f Dp.fd ["thing", "most"] (spPlain K tb) := ok_plain D0 Dp T hc TB
  have Gown_words : FnOk P w K mg base CX0 1 D0.own_words.f D0.own_words.fd [] spOwn := ok_own D0 T
  have G_law_cell_at : FnOk P w K mg base CX0 1 D1._law_cell_at.f D1._law_cell_at.fd ["_law_script", "_law_k"] (spCell K) := ok_cell D1 T
  have G_law_box : FnOk P w K mg base CX0 1 D1._law_box.f D1._law_box.fd ["_law_cell"] spBox := ok_box D1 T
  have G_law_take : FnOk P w K mg base CX0 1 D1._law_take.f D1._law_take.fd ["_law_box_here", "_law_many"] spTake := ok_take D1 T
  have G_law_text : FnOk P w K mg base CX0 2 D1._law_text.f D1._law_text.fd ["_law_box_here"] spText := ok_text D1 T
  have G_law_own : FnOk P w K mg base CX0 1 D1._law_own.f D1._law_own.fd [] spOwn := ok_lown D1 T
  have G_law_texts_right : FnOk P w K mg base CX0 3 Dt.f Dt.fd ["_law_text_here", "_law_most"] (spTexts tb) := ok_texts Dt D0 D1 D2 Dp T hc TB
  have G_law_numbers_right : FnOk P w K mg base CX0 3 Dn.f Dn.fd ["_law_box_here", "_law_text_here"] (spNums tb) := ok_nums Dn D0 D1 Dp T hc TB
  refine D.F.ok sclaw (fun vs H Q E h => ?_) (fun cdv A outer s H vs Q E hr h => ?_)
  · obtain ⟨a, ns, rfl, _⟩ := h
    rfl
  · obtain ⟨a, ns, rfl, hS, hn, tab, k⟩ := h
    refine ⟨_, (pss_cons (ps_for PassesOwn.never rfl (pi_range1 rfl T.b_range (pa_cons (pe_callB (call_max2 rfl) (by rfl) T.b_max (by decide +kernel) (pa_cons pe_int (pa_cons (pe_callB (call_min2 rfl) (by rfl) T.b_min (by decide +kernel) (pa_cons (pe_callB call_len_seq (by rfl) T.b_len (by decide +kernel) (pa_cons (pv 0) pa_nil)) (pa_cons pe_int pa_nil))) pa_nil))) pa_nil)) (pg_name (i := 1) sclaw.nd rfl (Or.inl rfl)) (pss_cons (ps_set (i := 2) sclaw.nd rfl (Or.inl rfl) (pcall D1._law_box G_law_box hr (by decide) (by rfl) (pa_cons (pcall D1._law_cell_at G_law_cell_at hr (by decide) (by rfl) (pa_cons (pv 0) (pa_cons (pv 1) pa_nil))) pa_nil)))
        (pss_cons (ps_set (i := 3) sclaw.nd rfl (Or.inl rfl) (pe_ix ix_list (pe_lst (pa_cons pe_int (pa_cons pe_int (pa_cons pe_int (pa_cons (pe_op op_add (pe_op op_pow pe_int pe_int) (pcall D1._law_take G_law_take hr (by decide) (by rfl) (pa_cons (pv 2) (pa_cons pe_int pa_nil)))) (pa_cons (pcall D1._law_take G_law_take hr (by decide) (by rfl) (pa_cons (pv 2) (pa_cons pe_int pa_nil))) pa_nil)))))) (pcall D1._law_take G_law_take hr (by decide) (by rfl) (pa_cons (pv 2) (pa_cons pe_int pa_nil))) (fun _ _ => rfl)))
        (pss_cons (ps_set (i := 4) sclaw.nd rfl (Or.inl rfl) (pe_op op_sub (pe_op op_add (pv 3) (pcall D1._law_take G_law_take hr (by decide) (by rfl) (pa_cons (pv 2) (pa_cons pe_int pa_nil)))) pe_int))
        (pss_cons (ps_set (i := 5) sclaw.nd rfl (Or.inl rfl) (pcall0 D1._law_own G_law_own hr (by decide) (by rfl)))
        (pss_cons (ps_set (i := 6) sclaw.nd rfl (Or.inl rfl) (pe_lst (pa_cons (pcall D1._law_text G_law_text hr (by decide) (by rfl) (pa_cons (pv 2) pa_nil)) (pa_cons (pe_callTy call_str_int (by rfl) T.b_str (by decide +kernel) (pa_cons (pe_callB (call_max2 rfl) (by rfl) T.b_max (by decide +kernel) (pa_cons pe_int (pa_cons (pv 4) pa_nil))) pa_nil)) (pa_cons (pe_op op_add_str pe_str (pe_callTy call_str_int (by rfl) T.b_str (by decide +kernel) (pa_cons (pe_callB (call_max2 rfl) (by rfl) T.b_max (by decide +kernel) (pa_cons pe_int (pa_cons (pv 4) pa_nil))) pa_nil))) (pa_cons (pe_ix ix_list (pv 5) (pcall D1._law_take G_law_take hr (by decide) (by rfl) (pa_cons (pv 2) (pa_cons (pe_callB call_len_seq (by rfl) T.b_len (by decide +kernel) (pa_cons (pv 5) pa_nil)) pa_nil))) (fun _ _ => rfl)) (pa_cons pe_str (pa_cons pe_str pa_nil))))))))
        (pss_cons (ps_for PassesOwn.never rfl (pi_list (pe_op op_cat (pe_op op_cat (pv 6) (pe_lc (own := [("_law_text_here", 7)]) (g := gName 7) (tt := tYes) rfl sclaw.nd (pi_list (pv 6)) (blkOk_by (N := sclaw_N) (sc := defScope sclaw_st) (by decide +kernel)) (fun _ _ _ _ _ => pg_name (i := 7) sclaw.nd rfl (Or.inl rfl)) (fun _ _ _ _ _ => pts_nil) (fun _ _ _ _ _ => (pe_op op_add_str (pv 7) pe_str)))) (pe_lst (pa_cons (pe_op op_add_str (pe_ix ix_list (pv 6) pe_int (fun _ _ => rfl)) pe_str) (pa_cons (pe_upper (pe_ix ix_list (pv 6) pe_int (fun _ _ => rfl))) (pa_cons (pe_ix ix_list (pv 6) pe_int (fun _ _ => rfl)) pa_nil)))))) (pg_name (i := 7) sclaw.nd rfl (Or.inl rfl)) (pss_one (ps_if (pt_not (pt_val (pcall Dt G_law_texts_right hr (by decide) (by rfl) (pa_cons (pv 7) (pa_cons (pv 3) pa_nil))))) (pss_one (ps_ret pe_bl)) pss_nil)))
        (pss_cons (ps_if (PW.pt (pw_or (pt_not (pt_val (pcall Dn G_law_numbers_right hr (by decide) (by rfl) (pa_cons (pv 2) (pa_cons (pe_ix ix_list (pv 6) pe_int (fun _ _ => rfl)) pa_nil))))) (pw_or1 (pt_cmpR (op_neD hr.units) (pcall0 D0.own_words Gown_words hr (by decide) (by rfl)) (pv 5) (nomark _))))) (pss_one (ps_ret pe_bl)) pss_nil)
        (pss_one (ps_expr (pe_bm0 PySem.F.plainAttrs_list PySem.F.slot_list_clear PySem.F.type_list_clear mt_clear (pcall0 D0.own_words Gown_words hr (by decide) (by rfl)))))))))))))
        (pss_cons (ps_for PassesOwn.never rfl (pi_list (pe_lst (pa_cons (pe_op op_mulS pe_str pe_int) (pa_cons (pe_op op_add_str pe_str (pe_op op_mulS pe_str pe_int)) (pa_cons (pe_op op_mulS pe_str pe_int) pa_nil))))) (pg_name (i := 7) sclaw.nd rfl (Or.inl rfl)) (pss_one (ps_if (PW.pt (pw_or (pt_cmpR op_notN (pcall Dp Gplain_number hr (by decide) (by rfl) (pa_cons (pv 7) (pa_cons pe_int pa_nil))) pe_non (nomark _)) (pw_or (pt_cmpR op_notBl (pcall D0.is_name Gis_name hr (by decide) (by rfl) (pa_cons (pv 7) pa_nil)) pe_bl (nomark _)) (pw_or1 (pt_cmpR op_notBl (pcall D0.is_value Gis_value hr (by decide) (by rfl) (pa_cons (pv 7) pa_nil)) pe_bl (nomark _)))))) (pss_one (ps_ret pe_bl)) pss_nil)))
        (pss_one (ps_ret (pe_cmpR (op_eqD hr.units) (pcall0 D0.own_words Gown_words hr (by decide) (by rfl)) (pcall0 D1._law_own G_law_own hr (by decide) (by rfl)) (nomark _)))))), ?_⟩
    have len63 : (ns.map V.int).length ≤ 63 := by rw [List.length_map]; exact hn
    refine ⟨_, rfl, a, _, rfl, .inl hS, _, _, rfl, _, _, rfl, _, rfl, ?_, ?_, for_range (lo := 0) (fun i σ H1 => ∃ v1 v2 v3 v4 v5 v6 v7, σ = [some (.ref a), v1, v2, v3, v4, v5, v6, v7] ∧ KeepT tb H H1)
      ⟨_, _, _, _, _, _, _, rfl, KeepT.refl tab⟩ ?_ ?_⟩
    · split <;> split <;> omega
    · split <;> split <;> omega
    · rintro i σ H1 hi ⟨v1, v2, v3, v4, v5, v6, v7, rfl, k1⟩
      have hS1 := sq_keep hS tab k1
      refine ⟨_, rfl, _, rfl, a, i, ns, (by rw [Int.zero_add]; rfl), hS1, fun cell => ⟨cell, rfl, fun p o hp hB => ?_⟩⟩
      have h0 : Held tb p H1 (upd H1 p o) [] := ⟨k1.tab |> fun t => (KeepT.refl t).new hp, ⟨o, upd_same, hB⟩, hp, fun x hx => nomatch hx⟩
      generalize upd H1 p o = Ha at h0 ⊢
      -- most
      obtain ⟨o1, e1, B1⟩ := h0.box
      refine ⟨_, _, rfl, rfl, ⟨by decide, by decide, by decide⟩, _, rfl, p, o1, 9, rfl, e1, B1, by decide, by decide, fun r1 o2 r10 r11 B2 => ⟨_, _, rfl, rfl, ?_⟩⟩
      have h1 := h0.box' B2
      generalize upd Ha p o2 = Hb at h1 ⊢
      obtain ⟨o3, e3, B3⟩ := h1.box
      refine ⟨_, rfl, p, o3, 1000, rfl, e3, B3, by decide, by decide, fun r2 o4 r20 r21 B4 => ?_⟩
      have h2 := h1.box' B4
      generalize upd Hb p o4 = Hc at h2 ⊢
      refine ⟨(by show 5 ≤ sizeLine; decide), fun q hq => ?_⟩
      have h3 := h2.add (xs := [.int 0, .int 9, .int 400, .int (10 ^ (20 : Int).toNat + r1), .int r2]) hq
      generalize upd Hc q (.lst [.int 0, .int 9, .int 400, .int (10 ^ (20 : Int).toNat + r1), .int r2]) = Hd at h3 ⊢
      obtain ⟨o5, e5, B5⟩ := h3.box
      refine ⟨_, rfl, p, o5, 5, rfl, e5, B5, by decide, by decide, fun r3 o6 r30 r31 B6 => ?_⟩
      have h4 := h3.box' B6
      generalize upd Hd p o6 = He at h4 ⊢
      obtain ⟨most, hmost, m0, m20⟩ : ∃ most : Int, atI ([.int 0, .int 9, .int 400, .int (10 ^ (20 : Int).toNat + r1), .int r2] : List V) r3 = some (.int most) ∧ 0 ≤ most ∧ most ≤ 10 ^ 20 + 8 := by
        have e20 : (10 : Int) ^ (20 : Int).toNat = 10 ^ 20 := rfl
        have : r3 = 0 ∨ r3 = 1 ∨ r3 = 2 ∨ r3 = 3 ∨ r3 = 4 := by omega
        rcases this with rfl | rfl | rfl | rfl | rfl
        · exact ⟨0, atI_nat (j := 0) rfl, by decide, by decide⟩
        · exact ⟨9, atI_nat (j := 1) rfl, by decide, by decide⟩
        · exact ⟨400, atI_nat (j := 2) rfl, by decide, by decide⟩
        · exact ⟨_, atI_nat (j := 3) rfl, by rw [e20]; omega, by rw [e20]; omega⟩
        · exact ⟨_, atI_nat (j := 4) rfl, r20, by omega⟩
      refine ⟨q, _, r3, _, rfl, rfl, SqL.of (h4.ls _ List.mem_cons_self).1, hmost, ?_⟩
      -- far
      obtain ⟨o7, e7, B7⟩ := h4.box
      refine ⟨_, rfl, _, rfl, p, o7, 3, rfl, e7, B7, by decide, by decide, fun r4 o8 r40 r41 B8 => ⟨_, _, rfl, rfl, _, _, rfl, rfl, ?_⟩⟩
      have h5 := h4.box' B8
      generalize upd He p o8 = Hf at h5 ⊢
      -- the own words
      refine ⟨rfl, fun q2 hq2 => ?_⟩
      have h6 := h5.add (xs := ownW.map V.str) hq2
      generalize upd Hf q2 (.lst (ownW.map V.str)) = Hg at h6 ⊢
      -- the texts
      obtain ⟨o9, e9, B9⟩ := h6.box
      refine ⟨_, rfl, p, o9, rfl, e9, B9, fun z0 Hh z0l z0a kh => ?_⟩
      have h7 := h6.kept kh
      obtain ⟨m, hm, mB⟩ : ∃ m : Nat, (if most + r4 - 1 > 0 then most + r4 - 1 else 0) = (m : Int) ∧ m < 10 ^ 29 := by
        refine ⟨(if most + r4 - 1 > 0 then most + r4 - 1 else 0).toNat, ?_, ?_⟩
        · split <;> omega
        · split <;> omega
      have hlog : (if most + r4 - 1 > 0 then most + r4 - 1 else 0).natAbs.log2 < 1920 := by
        rw [hm, Int.natAbs_natCast]
        by_cases m0 : m = 0
        · subst m0
          decide
        · exact Nat.lt_of_lt_of_le ((Nat.log2_lt (k := 100) m0).mpr (Nat.lt_trans mB (by decide))) (by decide)
      have hSa : asc (Str.ofString (toString (if most + r4 - 1 > 0 then most + r4 - 1 else 0))) := by
        rw [hm]
        exact asc_num m
      have hSl : (Str.ofString (toString (if most + r4 - 1 > 0 then most + r4 - 1 else 0))).length ≤ 29 := by
        rw [hm, num_len]
        exact TL.numL_len (by decide) mB
      refine ⟨_, rfl, _, _, rfl, _, rfl, hlog, ?_⟩
      refine ⟨_, rfl, _, _, rfl, _, rfl, hlog, _, _, rfl, rfl, ?_, ?_⟩
      · have e1 : ("0" : Str).length = 1 := by decide +kernel
        have l := PySem.sizeLine_eq
        omega
      have f6 := (h7.ls _ List.mem_cons_self).1
      obtain ⟨oa, ea, Ba⟩ := h7.box
      refine ⟨_, rfl, _, rfl, _, rfl, q2, _, rfl, .inl (SqL.of f6), p, oa, _, rfl, ea, Ba, by decide +kernel, by decide +kernel, fun r5 ob r50 r51 Bb => ?_⟩
      have h8 := h7.box' Bb
      generalize upd Hh p ob = Hi at h8 ⊢
      obtain ⟨wd, hwd, hwm⟩ : ∃ wd : Str, atI (ownW.map V.str) r5 = some (.str wd) ∧ wd ∈ ownW := by
        have e16 : (((ownW.map V.str).length : Nat) : Int) = 16 := by decide +kernel
        obtain ⟨j, rfl⟩ := Int.eq_ofNat_of_zero_le r50
        have hj : j < ownW.length := by
          have : ownW.length = 16 := by decide +kernel
          have r51' : ((j : Nat) : Int) < (((ownW.map V.str).length : Nat) : Int) := r51
          omega
        exact ⟨ownW[j], atI_nat (by rw [List.getElem?_map, List.getElem?_eq_getElem hj]; rfl), List.getElem_mem hj⟩
      obtain ⟨wa, wl, ua, ul⟩ := own_ok wd hwm
      refine ⟨q2, _, r5, _, rfl, rfl, SqL.of (h8.ls _ List.mem_cons_self).1, hwd, ?_⟩
      refine ⟨(by show 6 ≤ sizeLine; decide), fun q3 hq3 => ?_⟩
      generalize hSS : Str.ofString (toString (if most + r4 - 1 > 0 then most + r4 - 1 else 0)) = S at hSa hSl ⊢
      have h9 := h8.add (xs := [.str z0, .str S, .str ("0" ++ S), .str wd, .str "", .str "0"]) hq3
      generalize upd Hi q3 (.lst [.str z0, .str S, .str ("0" ++ S), .str wd, .str "", .str "0"]) = Hj at h9 ⊢
      have f9 := (h9.ls _ List.mem_cons_self).1
      have g9 := (h9.ls _ (List.mem_cons_of_mem _ List.mem_cons_self)).1
      obtain ⟨TS, hTS⟩ : ∃ TS : List Str, TS = [z0, S, "0" ++ S, wd, "", "0"] := ⟨_, rfl⟩
      have hTV : ([.str z0, .str S, .str ("0" ++ S), .str wd, .str "", .str "0"] : List V) = TS.map V.str := by rw [hTS]; rfl
      have nl1 : ("\n" : Str).length = 1 := by decide +kernel
      have TSok : ∀ t ∈ TS, asc t ∧ t.length ≤ 40 := by
        rw [hTS]
        intro t ht
        have n1 : ("0" : Str).length = 1 := by decide +kernel
        have na : asc "0" := by unfold asc; decide +kernel
        have ea : asc "" := by unfold asc; decide +kernel
        have e0 : ("" : Str).length = 0 := by decide +kernel
        simp only [List.mem_cons, List.not_mem_nil, or_false] at ht
        rcases ht with rfl | rfl | rfl | rfl | rfl | rfl
        · exact ⟨z0a, by omega⟩
        · exact ⟨hSa, by omega⟩
        · exact ⟨asc_app na hSa, by rw [len_app]; omega⟩
        · exact ⟨wa, by omega⟩
        · exact ⟨ea, by omega⟩
        · exact ⟨na, by omega⟩
      have TS6 : TS.length = 6 := by rw [hTS]; rfl
      rw [hTV] at f9
      refine ⟨_, rfl, _, rfl, q3, rfl, ⟨_, SqL.of f9⟩, fun D hD => lc_list (K := K) (a := q3) (xs := TS.map V.str) (fun i H' => H' = upd Hj D (.lst (((TS.take i).map nlA).map V.str)))
        rfl (fun i H' _ e => by rw [e]; exact SqL.of (by rw [upd_ne (ne_of_none f9 hD)]; exact f9)) ?_ ?_⟩
      · rintro j x H' hx rfl
        obtain ⟨t, ht, rfl⟩ : ∃ t, TS[j]? = some t ∧ x = .str t := by
          rw [List.getElem?_map] at hx
          cases q : TS[j]? with
          | none => rw [q] at hx; cases hx
          | some t => rw [q] at hx; exact ⟨t, rfl, (Option.some.inj hx).symm⟩
        obtain ⟨ta, tl⟩ := TSok t (List.mem_of_getElem? ht)
        refine ⟨rfl, _, rfl, _, _, rfl, rfl, ?_, _, upd_same, ?_, ?_⟩
        · rw [nl1]
          have l := PySem.sizeLine_eq
          omega
        · rw [List.length_map, List.length_map, List.length_take]
          have l := PySem.sizeLine_eq
          omega
        · rw [upd_upd, List.take_add_one, ht, List.map_append, List.map_append]
          rfl
      · rintro H' rfl
        rw [List.length_map, List.take_length]
        have ha := h9.add (xs := (TS.map nlA).map V.str) hD
        have fa := (ha.ls _ List.mem_cons_self).1
        have fb := (ha.ls _ (List.mem_cons_of_mem _ List.mem_cons_self)).1
        generalize upd Hj D (.lst ((TS.map nlA).map V.str)) = Hk at ha fa fb ⊢
        rw [hTV] at fb
        refine ⟨q3, D, _, _, rfl, rfl, fb, fa, ?_, fun q4 hq4 => ?_⟩
        · simp only [List.length_map, TS6]
          decide
        have hb := ha.add (xs := TS.map V.str ++ (TS.map nlA).map V.str) hq4
        generalize upd Hk q4 (.lst (TS.map V.str ++ (TS.map nlA).map V.str)) = Hl at hb ⊢
        have fc := (hb.ls _ (List.mem_cons_of_mem _ (List.mem_cons_of_mem _ List.mem_cons_self))).1
        have at3 : atI ([.str z0, .str S, .str ("0" ++ S), .str wd, .str "", .str "0"] : List V) 3 = some (.str wd) := atI_nat (j := 3) rfl
        have at0' : atI ([.str z0, .str S, .str ("0" ++ S), .str wd, .str "", .str "0"] : List V) 0 = some (.str z0) := atI_nat (j := 0) rfl
        have x1 : ("x" : Str).length = 1 := by decide +kernel
        refine ⟨_, rfl, q3, _, 3, _, rfl, rfl, SqL.of fc, at3, _, _, rfl, rfl, ?_, ?_⟩
        · rw [x1]
          have l := PySem.sizeLine_eq
          omega
        refine ⟨_, rfl, q3, _, 3, _, rfl, rfl, SqL.of fc, at3, ⟨_, rfl⟩, _, rfl, rfl, by omega, ?_⟩
        refine ⟨_, rfl, q3, _, 0, _, rfl, rfl, SqL.of fc, at0', (by show 3 ≤ sizeLine; decide), fun q5 hq5 => ?_⟩
        have hc := hb.add (xs := [.str (wd ++ "x"), .str (Txt.upper wd), .str z0]) hq5
        generalize upd Hl q5 (.lst [.str (wd ++ "x"), .str (Txt.upper wd), .str z0]) = Hm at hc ⊢
        refine ⟨q4, q5, _, _, rfl, rfl, (hc.ls _ (List.mem_cons_of_mem _ List.mem_cons_self)).1, (hc.ls _ List.mem_cons_self).1, ?_, fun q6 hq6 => ?_⟩
        · simp only [List.length_map, List.length_append, TS6]
          show 15 ≤ sizeLine
          decide
        have hd := hc.add (xs := (TS.map V.str ++ (TS.map nlA).map V.str) ++ [.str (wd ++ "x"), .str (Txt.upper wd), .str z0]) hq6
        generalize upd Hm q6 (.lst ((TS.map V.str ++ (TS.map nlA).map V.str) ++ [.str (wd ++ "x"), .str (Txt.upper wd), .str z0])) = Hn at hd ⊢
        have fall := (hd.ls _ List.mem_cons_self).1
        have n6 := (hd.ls _ List.mem_cons_self).2.2
        have okAll : ∀ x ∈ (TS.map V.str ++ (TS.map nlA).map V.str) ++ [.str (wd ++ "x"), .str (Txt.upper wd), .str z0], TextOk x := by
          intro x hx
          rcases List.mem_append.mp hx with hx | hx
          · rcases List.mem_append.mp hx with hx | hx
            · obtain ⟨t, ht, rfl⟩ := List.mem_map.mp hx
              obtain ⟨ta, tl⟩ := TSok t ht
              exact ⟨t, rfl, ta, by omega⟩
            · obtain ⟨t', ht', rfl⟩ := List.mem_map.mp hx
              obtain ⟨t, ht, rfl⟩ := List.mem_map.mp ht'
              obtain ⟨ta, tl⟩ := TSok t ht
              exact ⟨_, rfl, asc_app ta (by unfold asc; decide +kernel), by show (t ++ ("\n" : Str)).length ≤ 100; rw [len_app, nl1]; omega⟩
          · simp only [List.mem_cons, List.not_mem_nil, or_false] at hx
            rcases hx with rfl | rfl | rfl
            · exact ⟨_, rfl, asc_app wa (by unfold asc; decide +kernel), by rw [len_app, x1]; omega⟩
            · exact ⟨_, rfl, ua, by omega⟩
            · exact ⟨_, rfl, z0a, by omega⟩
        refine ⟨q6, rfl, ⟨_, SqL.of fall⟩, for_list (K := K) (a := q6) (fun i' σ H' => ∃ v, σ = [some (.ref a), some (.int (0 + (i : Int))), some (.ref p), some (.int most), some (.int (most + r4 - 1)), some (.ref q2), some (.ref q3), v] ∧ KeepT tb Hn H')
          ⟨v7, rfl, KeepT.refl hd.kt.tab⟩ (fun i' σ H' _ ⟨_, _, q⟩ => SqL.of (q.old _ _ n6 fall)) ?_ ?_⟩
        · rintro i' x σ H' hx ⟨v, rfl, q⟩
          obtain ⟨t, rfl, ta, tl⟩ := okAll x (List.mem_of_getElem? hx)
          have l := PySem.sizeLine_eq
          exact ⟨_, rfl, _, rfl, t, most, rfl, ta, by omega, m0, by omega, q.tab, fun H'' q' => ⟨_, rfl, iteF ⟨_, rfl, q.trans q'⟩⟩⟩
        · rintro σ H' ⟨v, rfl, q⟩
          have he := hd.keepT q
          have at0'' : atI ([.str z0, .str S, .str ("0" ++ S), .str wd, .str "", .str "0"] : List V) 0 = some (.str z0) := atI_nat (j := 0) rfl
          have f3' := (he.ls _ (List.mem_cons_of_mem _ (List.mem_cons_of_mem _ (List.mem_cons_of_mem _ (List.mem_cons_of_mem _ List.mem_cons_self))))).1
          obtain ⟨oc, ec, Bc⟩ := he.box
          refine ⟨_, rfl, _, rfl, q3, _, 0, _, rfl, rfl, SqL.of f3', at0'', p, oc, z0, rfl, ec, Bc, he.kt.tab, fun Ho kb => ?_⟩
          have hf := he.keepB kb
          refine ⟨_, rfl, iteF ?_⟩
          refine ⟨rfl, fun q7 hq7 => ?_⟩
          have hg := hf.add (xs := ownW.map V.str) hq7
          have w7 := (hg.ls _ List.mem_cons_self).1
          have w2 := (hg.ls _ (List.mem_cons_of_mem _ (List.mem_cons_of_mem _ (List.mem_cons_of_mem _ (List.mem_cons_of_mem _ (List.mem_cons_of_mem _ (List.mem_cons_of_mem _ List.mem_cons_self))))))).1
          generalize upd Ho q7 (.lst (ownW.map V.str)) = Hp' at hg w7 w2 ⊢
          refine ⟨_, rfl, .list (pds ownW), .list (pds ownW), .lst (SqL.of w7) (dp_strs _), .lst (SqL.of w2) (dp_strs _), shaped_strs _ ok_own_words, shaped_strs _ ok_own_words, _, rfl, ?_⟩
          have ee : PyData.eqv (.list (pds ownW)) (.list (pds ownW)) = true := by
            show PyData.eqvAll _ _ = true
            rw [eqv_strs, decide_eq_true rfl]
          rw [ee]
          refine iteF ?_
          refine ⟨rfl, fun q8 hq8 => ⟨.inl ⟨rfl, _, SqL.of upd_same⟩, q8, _, rfl, rfl, upd_same, ?_⟩⟩
          refine ⟨_, _, _, _, _, _, _, rfl, ?_⟩
          rw [upd_upd]
          exact (k1.trans hg.kt).new hq8
    · rintro σ H1 ⟨v1, v2, v3, v4, v5, v6, v7, rfl, k1⟩
      refine ⟨_, _, rfl, rfl, by decide +kernel, by decide, by decide, fun y1 hy1 => ?_⟩
      refine ⟨_, _, rfl, rfl, by decide +kernel, by decide, by decide, fun y2 hy2 => ⟨_, _, rfl, rfl, ?_, ?_⟩⟩
      · have l := PySem.sizeLine_eq
        have e1 : ("1" : Str).length = 1 := by decide +kernel
        omega
      refine ⟨_, _, rfl, rfl, by decide +kernel, by decide, by decide, fun y3 hy3 => ?_⟩
      refine ⟨(by show 3 ≤ sizeLine; decide), fun q hq => ?_⟩
      have s1 := same_new (u := .lst [.str y1, .str ("1" ++ y2), .str y3]) (Same.refl H1) hq
      have f1 : (upd H1 q (.lst [.str y1, .str ("1" ++ y2), .str y3])) q = some (.lst [.str y1, .str ("1" ++ y2), .str y3]) := upd_same
      have k2 := k1.same s1
      have n1 : q ≠ tb := by
        obtain ⟨ps, e, _⟩ := k2.tab
        exact ne_of f1 e (by intro z; cases z)
      generalize upd H1 q (.lst [.str y1, .str ("1" ++ y2), .str y3]) = Ha at f1 k2 ⊢
      have long : ∀ x ∈ ([.str y1, .str ("1" ++ y2), .str y3] : List V), ∃ z : Str, x = .str z ∧ 13 ≤ z.length ∧ z.length ≤ sizeLine := by
        have l := PySem.sizeLine_eq
        have e1 : ("1" : Str).length = 1 := by decide +kernel
        intro x hx
        simp only [List.mem_cons, List.not_mem_nil, or_false] at hx
        rcases hx with rfl | rfl | rfl
        · exact ⟨_, rfl, by omega, by omega⟩
        · exact ⟨_, rfl, by rw [len_app]; omega, by rw [len_app]; omega⟩
        · exact ⟨_, rfl, by omega, by omega⟩
      refine ⟨q, rfl, ⟨_, SqL.of f1⟩, for_list (K := K) (a := q) (xs := [.str y1, .str ("1" ++ y2), .str y3]) (fun i σ H' => ∃ v, σ = [some (.ref a), v1, v2, v3, v4, v5, v6, v] ∧ KeepT tb Ha H')
        ⟨v7, rfl, KeepT.refl k2.tab⟩ (fun i σ H' _ ⟨_, _, q'⟩ => SqL.of (q'.old _ _ n1 f1)) ?_ ?_⟩
      · rintro i x σ H' hx ⟨v, rfl, q'⟩
        obtain ⟨z, rfl, z13, zl⟩ := long x (List.mem_of_getElem? hx)
        have wno : ∀ (signs : Str) (n : Int), n ≤ 12 → writ (.str z) signs n = false := fun signs n hn => by
          have : ¬ ((z.length : Int) ≤ n) := by omega
          simp [writ, this]
        have pn : plainV (.str z) 400 = .non := plain_writ (by decide) (wno _ _ (by decide +kernel))
        have nn : nameOk (.str z) = false := by
          show (writ (.str z) LET 8 && !decide (z ∈ ownW)) = false
          rw [wno LET 8 (by decide)]
          rfl
        have vn : valOk (.str z) = false := wno _ _ (by decide)
        refine ⟨_, rfl, _, 400, rfl, .str z, zl, by decide, by decide, q'.tab, fun H2 t2 => ⟨rfl, _, rfl, ?_⟩⟩
        have q2 := q'.trans (KeepT.of t2)
        rw [pn]
        refine iteF ?_
        refine ⟨_, rfl, _, rfl, .str z, zl, q2.tab, fun H3 t3 => ⟨_, false, rfl, rfl, _, rfl, ?_⟩⟩
        have q3 := q2.trans (KeepT.of t3)
        rw [nn]
        refine iteF ?_
        refine ⟨_, rfl, _, rfl, .str z, zl, q3.tab, fun H4 t4 => ⟨_, false, rfl, rfl, _, rfl, ?_⟩⟩
        have q4 := q3.trans (KeepT.of t4)
        rw [vn]
        exact iteF ⟨_, rfl, q4⟩
      · rintro σ H' ⟨v, rfl, q'⟩
        refine ⟨rfl, fun q7 hq7 => ⟨rfl, fun q8 hq8 => ?_⟩⟩
        refine ⟨.list (pds ownW), .list (pds ownW), .lst (SqL.of ?_) (dp_strs _), .lst (SqL.of upd_same) (dp_strs _), shaped_strs _ ok_own_words, shaped_strs _ ok_own_words, ?_⟩
        · rw [upd_ne (ne_of_none upd_same hq8)]
          exact upd_same
        have ee : PyData.eqv (.list (pds ownW)) (.list (pds ownW)) = true := by
          show PyData.eqvAll _ _ = true
          rw [eqv_strs, decide_eq_true rfl]
        rw [ee]
        exact k _
end
end LL
namespace LL
open PySem PySem.Spec PyProof.Rows L2
/-- the end of a law row, where the def called nm holds a generator expression -/
theorem walk_def {l : PySem.W.OpenLaw} {most lvl : Nat} {view : Program} {loose : List Str} {XP : (Str → Option Value) → Heap → Prop} {YP : World → Heap → Prop}
    {d : DefRec} {K : Params → PySem.W.Frag} {CX : World → CXT} {arg nm : Str}
    (h1 : l.most = some most) (h2 : most ≤ sizeLine) (h3 : d.params.defaults = []) (room : Room lvl callerA)
    (there : ((recsOf view).any fun r => r.name == nm) = true) (kIn : ∀ (w : World) (h : Heap), YP w h → (K w.params).In h)
    (F : ∀ (w : World) (mg : Str → Option Value) (fa : Addr) (h : Heap), YP w h → (K w.params).In h → h.Ns mainGlobals mg → mg d.name = some (.ref fa) →
      (∀ f, mg nm = some (.ref f) → LamX.OwnTab (K w.params) f h) → LamX.LawAtS l w (K w.params) (CX w) lvl most arg mg fa h)
    (noX : ∀ (w : World) (H : Hp) (s : Shared) (e : Value) (s' : Shared), CX w [] H s (fun _ _ _ => False) e s' → False) :
    PySem.W.WalkO view loose XP YP l.row.toRowW d [] (fun f vs => PySem.call f vs) := by
  refine Att.attach_callB h1 h3 fun w sa sb mg mb fa oL pm cd doc a vals nums gr yp hob hdata hrec hfa hscr hint hlen hbit hgen => ?_
  have inK := kIn w _ yp
  have tabs : ∀ f, mg nm = some (.ref f) → LamX.OwnTab (K w.params) f sb.heap := fun f hf cc TT ob ff ev di vv ss g1 g2 g3 g4 g5 => by
    obtain ⟨r, mem, same⟩ := List.any_eq_true.mp there
    have nmr : r.name = nm := beq_iff_eq.mp same
    obtain ⟨fb, ob', ff', cc', TT', i1, i2, i3, i4, _, i6⟩ := gr.T.tab r mem
    rw [nmr, hf] at i1
    cases i1
    rw [inK _ _ g1] at i2
    cases i2
    rw [g2] at i3
    cases i3
    rw [g3] at i4
    cases i4
    obtain ⟨⟨oc, vc, j1, _, j3, j4⟩, empty⟩ := i6
    rw [inK _ _ g4] at j1
    cases j1
    cases j3
    rw [g5] at j4
    cases j4
    exact empty
  obtain ⟨fd, cs, sp, t1, t2, t3, bind, ask, good⟩ := F w mg fa _ yp inK gr.T.g hfa tabs
  exact LamX.law_callTs inK gr.T.g gr.T.b gr.T.builtins gr.T.nolimit hgen t1 t2 t3 gr.T.bmain hscr hint (Nat.le_trans hlen h2) room good bind
    (fun H q1 q2 => ask H a nums hlen hbit q1 q2) fun H e s' => noX w H sb e s'
/-- a def's facts, put together -/
def dn_mk {x : Str} {st : Stmt} {ps : List Str} {K : PySem.W.Frag} {h : Heap} {mg : Str → Option Value} {f : Addr} {oc : Value} {od an : Option Addr} {sl : Array (Option Value)} {kV doc pm cdv ct : Value}
    (X : K.In h) (G : h.Ns mainGlobals mg) (a : PySem.W.nsIn K mainGlobals x = some (some (.ref f)))
    (l : K.lookup f = some ⟨oc, od, .func (PySem.W.fnOf x x (defArgs st) (defBody st) (defScope st) .none kV doc pm an cdv ct), sl⟩)
    (c : PySem.W.codeIn K cdv x = true) (k : PySem.W.keepIn K (.ref f) = true)
    (b : ∀ (kV doc pm : Value) (an : Option Addr) (cdv ct : Value) (us : List Value), us.length = ps.length → bindArgs (PySem.W.fnOf x x (defArgs st) (defBody st) (defScope st) .none kV doc pm an cdv ct) ⟨us, []⟩ = pure (ps.zip us)) :
    Dn K mg x st ps := ⟨f, _, PySem.W.mg_of X G a, fun_mk l c k, (fun_mk l c k).binds b⟩
theorem own_mk {K : PySem.W.Frag} {h : Heap} {mg : Str → Option Value} {nm : Str} (own : ∀ f, mg nm = some (.ref f) → LamX.OwnTab K f h)
    {f c tb : Addr} {o : Obj} {fd : FuncData} {e : Value} {dd : Option Addr} {vs : Array Value} {sl : Array (Option Value)}
    (m : mg nm = some (.ref f)) (l0 : K.lookup f = some o) (d : o.data = .func fd) (cc : fd.code = .ref c)
    (l1 : K.lookup c = some ⟨e, dd, .fields vs, sl⟩) (v : vs[11]? = some (.ref tb)) : h.get? tb = some { cls := .none, data := .fields #[] } :=
  own f m c tb o fd e dd vs sl l0 d cc l1 v
theorem code_mk {K : PySem.W.Frag} {h : Heap} (X : K.In h) {c tb : Addr} {dd : Option Addr} {vs : Array Value} {sl : Array (Option Value)} {file : Str} {tf tg tt : Tok} {flags text : Int} {inF : Bool}
    (lk : K.lookup c = some ⟨.type "code", dd, .fields vs, sl⟩) (v : vs[11]? = some (.ref tb)) (v1 : vs.getD 11 .none = .ref tb) (v2 : vs.getD 18 .none = .str file tf)
    (v3 : vs.getD 7 .none = .int flags tg) (v4 : vs.getD 9 .none = .bool inF) (v5 : vs.getD 10 .none = .int text tt) (n : c ≠ tb) : PySem.W.CodeHd h c tb :=
  ⟨_, vs, file, tf, flags, tg, inF, text, tt, X _ _ lk, rfl, rfl, v, v1, v2, v3, v4, v5, n⟩
theorem words_mk {K : PySem.W.Frag} {ow : Addr} {dd : Option Addr} {its : Array Value} {n : Nat} {sl : Array (Option Value)}
    (lk : K.lookup ow = some ⟨.type "tuple", dd, .seq its n, sl⟩) (hs : its.size ≤ sizeLine) (hv : Vals (ownW.map V.str) its.toList) : ∀ H : Hp, SqT K H ow (ownW.map V.str) :=
  fun _ => .inr ⟨_, its, n, lk, rfl, rfl, hs, hv⟩
theorem finish {l : PySem.W.OpenLaw} {w : World} {K : PySem.W.Frag} {h : Heap} {mg : Str → Option Value} {fa ow c tb : Addr} {tF tL tN tV : Tok}
    (hfa : mg "law" = some (.ref fa)) (Dl : Dn K mg "law" sclaw_st ["_law_script"]) (Dt : Dn K mg "_law_texts_right" scLtextsright_st ["_law_text_here", "_law_most"])
    (Dn' : Dn K mg "_law_numbers_right" scLnumbersright_st ["_law_box_here", "_law_text_here"]) (D0 : Defs K mg) (D1 : Laws1 K mg) (D2 : Laws2 K mg)
    (Dp : Dn K mg "plain_number" scplainnumber_st ["thing", "most"]) (T : Tx K mg ow tF tL tN tV) (hc : D0.is_written_of.fd.code = .ref c)
    (bind : ∀ (s : Shared) (u : Value), BindsTo s Dl.fd ⟨[u], []⟩ [("_law_script", u)])
    (e1 : h.get? tb = some { cls := .none, data := .fields #[] }) (e2 : K.lookup tb = none) (e3 : PySem.W.CodeHd h c tb) :
    LamX.LawAtS l w K CX0 4 63 "_law_script" mg fa h := by
  have ef : Dl.f = fa := by
    have := Dl.m.symm.trans hfa
    injection this with this
    injection this
  refine ⟨Dl.fd, [(c, tb)], spLaw K tb, ?_, ?_, ?_, bind, ?_, ?_⟩
  · intro p hp
    rw [List.mem_singleton.mp hp]
    exact e1
  · intro p hp
    rw [List.mem_singleton.mp hp]
    exact e2
  · intro p hp
    rw [List.mem_singleton.mp hp]
    exact e3
  · intro H a ns hl _ ht hs
    exact ⟨a, ns, rfl, hs, hl, ⟨#[], ht (c, tb) List.mem_cons_self, trivial⟩, fun _ => rfl⟩
  · intro base _ _ TB
    have t := TB (c, tb) List.mem_cons_self
    have ok := ok_law (P := l.prog) (w := w) (base := base) Dl Dt Dn' D0 D1 D2 Dp T hc ⟨t.code, t.bm, t.gP⟩
    rw [ef] at ok
    exact ok
end LL
open PySem PySem.W PyProof.Rows in
set_option maxRecDepth 100000 in
set_option maxHeartbeats 0 in
theorem PySem.Challenge.cw_leastlore_k11_words_told_holds : PySem.Challenge.rw_leastlore_k11_words_told.Holds := by
  w_on; o_law; k_head; (case hw => w_witness2)
  k_fill
  refine LL.walk_def (l := PySem.Challenge.rw_leastlore_k11_words_told) (nm := "is_written_of") (arg := "_law_script") (lvl := 4) (most := 63) (CX := fun _ => L2.CX0) rfl (by decide) rfl ⟨rfl, by decide, by decide⟩ (by decide +kernel) (fun w h Y => PySem.W.kIn_of Y) ?F (fun _ _ _ _ _ z => z)
  case F =>
    intro w mg fa h Y KX G hmg own
    refine' LL.finish hmg (LL.dn_mk (x := "law") (st := LL.sclaw_st) (ps := ["_law_script"]) KX G ?ad18 ?ld18 ?cd18 ?kd18 (fun _ _ _ _ _ _ us hl => match us, hl with | [_], _ => rfl)) (LL.dn_mk (x := "_law_texts_right") (st := LL.scLtextsright_st) (ps := ["_law_text_here", "_law_most"]) KX G ?ad16 ?ld16 ?cd16 ?kd16 (fun _ _ _ _ _ _ us hl => match us, hl with | [_, _], _ => rfl)) (LL.dn_mk (x := "_law_numbers_right") (st := LL.scLnumbersright_st) (ps := ["_law_box_here", "_law_text_here"]) KX G ?ad17 ?ld17 ?cd17 ?kd17 (fun _ _ _ _ _ _ us hl => match us, hl with | [_, _], _ => rfl)) ⟨(LL.dn_mk (x := "is_whole") (st := LL.scIwhole_st) (ps := ["thing"]) KX G ?ad0 ?ld0 ?cd0 ?kd0 (fun _ _ _ _ _ _ us hl => match us, hl with | [_], _ => rfl)), (LL.dn_mk (x := "is_within") (st := LL.scIwithin_st) (ps := ["thing", "low", "high"]) KX G ?ad1 ?ld1 ?cd1 ?kd1 (fun _ _ _ _ _ _ us hl => match us, hl with | [_, _, _], _ => rfl)), (LL.dn_mk (x := "is_written_of") (st := LL.scIwrittenof_st) (ps := ["thing", "signs", "most"]) KX G ?ad2 ?ld2 ?cd2 ?kd2 (fun _ _ _ _ _ _ us hl => match us, hl with | [_, _, _], _ => rfl)), (LL.dn_mk (x := "is_name") (st := LL.scIname_st) (ps := ["thing"]) KX G ?ad3 ?ld3 ?cd3 ?kd3 (fun _ _ _ _ _ _ us hl => match us, hl with | [_], _ => rfl)), (LL.dn_mk (x := "is_value") (st := LL.scIvalue_st) (ps := ["thing"]) KX G ?ad4 ?ld4 ?cd4 ?kd4 (fun _ _ _ _ _ _ us hl => match us, hl with | [_], _ => rfl)), (LL.dn_mk (x := "own_words") (st := LL.scownwords_st) (ps := []) KX G ?ad5 ?ld5 ?cd5 ?kd5 (fun _ _ _ _ _ _ us hl => match us, hl with | [], _ => rfl))⟩ ⟨(LL.dn_mk (x := "_law_cell_at") (st := LL.scLcellat_st) (ps := ["_law_script", "_law_k"]) KX G ?ad6 ?ld6 ?cd6 ?kd6 (fun _ _ _ _ _ _ us hl => match us, hl with | [_, _], _ => rfl)), (LL.dn_mk (x := "_law_box") (st := LL.scLbox_st) (ps := ["_law_cell"]) KX G ?ad7 ?ld7 ?cd7 ?kd7 (fun _ _ _ _ _ _ us hl => match us, hl with | [_], _ => rfl)), (LL.dn_mk (x := "_law_take") (st := LL.scLtake_st) (ps := ["_law_box_here", "_law_many"]) KX G ?ad8 ?ld8 ?cd8 ?kd8 (fun _ _ _ _ _ _ us hl => match us, hl with | [_, _], _ => rfl)), (LL.dn_mk (x := "_law_text") (st := LL.scLtext_st) (ps := ["_law_box_here"]) KX G ?ad9 ?ld9 ?cd9 ?kd9 (fun _ _ _ _ _ _ us hl => match us, hl with | [_], _ => rfl)), (LL.dn_mk (x := "_law_own") (st := LL.scLown_st) (ps := []) KX G ?ad10 ?ld10 ?cd10 ?kd10 (fun _ _ _ _ _ _ us hl => match us, hl with | [], _ => rfl)), (LL.dn_mk (x := "_law_same") (st := LL.scLsame_st) (ps := ["_law_found", "_law_due"]) KX G ?ad11 ?ld11 ?cd11 ?kd11 (fun _ _ _ _ _ _ us hl => match us, hl with | [_, _], _ => rfl))⟩ ⟨(LL.dn_mk (x := "_law_name_due") (st := LL.scLnamedue_st) (ps := ["_law_text_here"]) KX G ?ad12 ?ld12 ?cd12 ?kd12 (fun _ _ _ _ _ _ us hl => match us, hl with | [_], _ => rfl)), (LL.dn_mk (x := "_law_value_due") (st := LL.scLvaluedue_st) (ps := ["_law_text_here"]) KX G ?ad13 ?ld13 ?cd13 ?kd13 (fun _ _ _ _ _ _ us hl => match us, hl with | [_], _ => rfl)), (LL.dn_mk (x := "_law_number_due") (st := LL.scLnumberdue_st) (ps := ["_law_text_here", "_law_most"]) KX G ?ad14 ?ld14 ?cd14 ?kd14 (fun _ _ _ _ _ _ us hl => match us, hl with | [_, _], _ => rfl))⟩ (LL.dn_mk (x := "plain_number") (st := LL.scplainnumber_st) (ps := ["thing", "most"]) KX G ?ad15 ?ld15 ?cd15 ?kd15 (fun _ _ _ _ _ _ us hl => match us, hl with | [_, _], _ => rfl)) ⟨PySem.W.mg_none_of KX G ?z_isinstance, PySem.W.mg_none_of KX G ?z_int, PySem.W.mg_none_of KX G ?z_bool, PySem.W.mg_none_of KX G ?z_str, PySem.W.mg_none_of KX G ?z_list, PySem.W.mg_none_of KX G ?z_all, PySem.W.mg_none_of KX G ?z_len, PySem.W.mg_none_of KX G ?z_range, PySem.W.mg_none_of KX G ?z_max, PySem.W.mg_none_of KX G ?z_min, PySem.W.mg_none_of KX G ?z_repr, PySem.W.mg_of KX G ?g_FIGURES, PySem.W.mg_of KX G ?g_LETTERS, PySem.W.mg_of KX G ?g_MOST_IN_NAME, PySem.W.mg_of KX G ?g_MOST_IN_VALUE, PySem.W.mg_of KX G ?g_OWN_WORDS, ?words⟩ ?zcode (fun s u => .of_eq rfl) ?zt1 ?zt2 ?zt3
    (case ad18 => k_is)
    (case ld18 => k_is)
    (case cd18 => k_is)
    (case kd18 => k_is)
    (case ad16 => k_is)
    (case ld16 => k_is)
    (case cd16 => k_is)
    (case kd16 => k_is)
    (case ad17 => k_is)
    (case ld17 => k_is)
    (case cd17 => k_is)
    (case kd17 => k_is)
    (case ad0 => k_is)
    (case ld0 => k_is)
    (case cd0 => k_is)
    (case kd0 => k_is)
    (case ad1 => k_is)
    (case ld1 => k_is)
    (case cd1 => k_is)
    (case kd1 => k_is)
    (case ad2 => k_is)
    (case ld2 => k_is)
    (case cd2 => k_is)
    (case kd2 => k_is)
    (case ad3 => k_is)
    (case ld3 => k_is)
    (case cd3 => k_is)
    (case kd3 => k_is)
    (case ad4 => k_is)
    (case ld4 => k_is)
    (case cd4 => k_is)
    (case kd4 => k_is)
    (case ad5 => k_is)
    (case ld5 => k_is)
    (case cd5 => k_is)
    (case kd5 => k_is)
    (case ad6 => k_is)
    (case ld6 => k_is)
    (case cd6 => k_is)
    (case kd6 => k_is)
    (case ad7 => k_is)
    (case ld7 => k_is)
    (case cd7 => k_is)
    (case kd7 => k_is)
    (case ad8 => k_is)
    (case ld8 => k_is)
    (case cd8 => k_is)
    (case kd8 => k_is)
    (case ad9 => k_is)
    (case ld9 => k_is)
    (case cd9 => k_is)
    (case kd9 => k_is)
    (case ad10 => k_is)
    (case ld10 => k_is)
    (case cd10 => k_is)
    (case kd10 => k_is)
    (case ad11 => k_is)
    (case ld11 => k_is)
    (case cd11 => k_is)
    (case kd11 => k_is)
    (case ad12 => k_is)
    (case ld12 => k_is)
    (case cd12 => k_is)
    (case kd12 => k_is)
    (case ad13 => k_is)
    (case ld13 => k_is)
    (case cd13 => k_is)
    (case kd13 => k_is)
    (case ad14 => k_is)
    (case ld14 => k_is)
    (case cd14 => k_is)
    (case kd14 => k_is)
    (case ad15 => k_is)
    (case ld15 => k_is)
    (case cd15 => k_is)
    (case kd15 => k_is)
    (case z_isinstance => k_is)
    (case z_int => k_is)
    (case z_bool => k_is)
    (case z_str => k_is)
    (case z_list => k_is)
    (case z_all => k_is)
    (case z_len => k_is)
    (case z_range => k_is)
    (case z_max => k_is)
    (case z_min => k_is)
    (case z_repr => k_is)
    (case g_FIGURES => k_is)
    (case g_LETTERS => k_is)
    (case g_MOST_IN_NAME => k_is)
    (case g_MOST_IN_VALUE => k_is)
    (case g_OWN_WORDS => k_is)
    (case words => (refine' LL.words_mk ?wq ?wr ?ws; (case wq => k_is); (case wr => decide); (case ws => exact (.cons ⟨_, rfl⟩ (.cons ⟨_, rfl⟩ (.cons ⟨_, rfl⟩ (.cons ⟨_, rfl⟩ (.cons ⟨_, rfl⟩ (.cons ⟨_, rfl⟩ (.cons ⟨_, rfl⟩ (.cons ⟨_, rfl⟩ (.cons ⟨_, rfl⟩ (.cons ⟨_, rfl⟩ (.cons ⟨_, rfl⟩ (.cons ⟨_, rfl⟩ (.cons ⟨_, rfl⟩ (.cons ⟨_, rfl⟩ (.cons ⟨_, rfl⟩ (.cons ⟨_, rfl⟩ .nil)))))))))))))))))))
    (case zcode => rfl)
    (case zt1 => (refine' LL.own_mk own (PySem.W.mg_of KX G ?mm) ?y0 ?y1 ?y2 ?y3 ?y4; (case mm => k_is); (case y0 => k_is); (case y1 => rfl); (case y2 => rfl); (case y3 => k_is); (case y4 => rfl)))
    (case zt2 => first | rfl | kernel_rfl)
    (case zt3 => (refine' LL.code_mk KX ?lk ?x2 ?x3 ?x4 ?x5 ?x6 ?x7 ?x8; (case lk => k_is); (case x2 => rfl); (case x3 => rfl); (case x4 => rfl); (case x5 => rfl); (case x6 => rfl); (case x7 => rfl); (case x8 => decide)))
#print axioms PySem.Challenge.cw_leastlore_k11_words_told_holds
