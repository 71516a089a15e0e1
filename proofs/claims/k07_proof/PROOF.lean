import PyProof.Rows.All
import Wide.All
import OpenK.AllK
import Wide.FinOn
import HandS.Words
import HandS.AnyAll
import HandS.IsInst
import HandS.ForMost
import HandS.Style
import HandS.TupAny
import KE.KRevSl
import HandS.ForExc
import HandS.TupMul
import HandS.Wide
import HandS.WideBits
import HandS.Walk
import HandS.Zip
import HandS.Star
import HandS.ExcIs
import HandS.TryOnly
import HandS.EndTab
import HandS.More
import KE.KNest
import HandS.Dict
import HandS.Small
import HandS.Gcd
import KE.KMathG
import OpenK.KEqL
import PySem.Challenge.RW_saltmill_k07_names_and_chains
set_option Elab.async false
set_option linter.all false
set_option maxRecDepth 100000
set_option maxHeartbeats 4000000
/-! all(test for x in e), e a tuple or a list, the test any expression that calls -/
namespace SM
open PySem PySem.Spec PyProof.Rows L2 GxR

/-- what a value's class is, over the heap -/
def TyH (h : Heap) (v : V) (t : String) : Prop := match v with
  | .ref a => (t = "list" ∨ t = "tuple") ∧ ∃ o, h.get? a = some o ∧ o.cls = .type t
  | .int _ => t = "int"
  | .bl _ => t = "bool"
  | .str _ => t = "str"
  | .non => t = "NoneType"
  | _ => False
/-- .. over the abstract heap -/
def TyA (K : PySem.W.Frag) (H : Hp) (v : V) (t : String) : Prop := match v with
  | .ref a => (t = "list" ∧ ∃ xs, SqL K H a xs) ∨ (t = "tuple" ∧ ∃ xs, SqT K H a xs)
  | .int _ => t = "int"
  | .bl _ => t = "bool"
  | .str _ => t = "str"
  | .non => t = "NoneType"
  | _ => False
section
variable {X : Cx} {pins : List (Addr × Obj)} {σ : L2.St} {H : Hp} {s : Shared}
theorem tyH_of {v : V} {t : String} (I : Inv X pins σ H s) (h : TyA X.K H v t) : TyH s.heap v t := by
  cases v with
  | ref a =>
    rcases h with ⟨rfl, xs, h⟩ | ⟨rfl, xs, h⟩
    · obtain ⟨its, r, p, _⟩ := I.list h
      obtain ⟨o, e, c, _⟩ := p.isList
      exact ⟨.inl rfl, o, e, c⟩
    · obtain ⟨its, r, ⟨o, e, c, _⟩, _⟩ := I.tuple h
      exact ⟨.inr rfl, o, e, c⟩
  | _ => exact h
end
theorem TyH.keep {h h' : Heap} {v : V} {t : String} (x : TyH h v t) (k : ∀ a o, v = .ref a → h.get? a = some o → (∃ t, o.cls = .type t) → h'.get? a = some o) : TyH h' v t := by
  cases v with
  | ref a =>
    obtain ⟨z, o, e, c⟩ := x
    exact ⟨z, o, k a o rfl e ⟨_, c⟩, c⟩
  | _ => exact x

/-- the place where the test is worked out, its item u bound to x; h0 is the heap at the generator's making -/
structure InGen (X : Cx) (h0 : Heap) (scope : Scope) (x : Str) (u : Value) (env : Env) (Ar : Around) (s : Shared) : Prop where
  quiet : Ar.handled = none
  deep : Ar.depth ≤ X.A.depth + 1
  wide : Ar.units ≤ X.A.units + 8
  inScope : env.scope = scope
  globs : env.globals = mainGlobals
  blts : env.builtins = builtinsNs
  base : ∀ b o, X.base.get? b = some o → s.heap.get? b = some o
  names : ∃ m : Str → Option Value, s.heap.Ns env.locals m ∧ m x = some u
  cells : env.cells = cloFrom X.env.cells scope.names []
  held : ∀ c v, h0.IsCell c v → s.heap.IsCell c v
/-- the truth b, as a bool or as an int -/
def TrueAs (b : Bool) (y : Value) : Prop := y = .bool b ∨ ∃ n t, y = .int n t ∧ b = (n != 0)
/-- the test of each item among xs -/
def EltV (X : Cx) (h0 : Heap) (scope : Scope) (x : Str) (elt : Expr) (pb : V → Bool) (xs : List V) : Prop :=
  ∀ v ∈ xs, ∀ (env : Env) (Ar : Around) (Er : Value → Shared → Prop) (u : Value) (t : String) (s : Shared), RelV v u → TyH s.heap v t → InGen X h0 scope x u env Ar s → wpAny (model X.prog X.w) Ar (eval elt env) (fun y z => TrueAs (pb v) y ∧ Keeps s z) Er s

/-- the truth at the j-th item -/
def truthAt (pb : V → Bool) (xs : List V) (j : Nat) : Bool := (xs[j]?.map pb).getD true
theorem truths (pb : V → Bool) : ∀ xs : List V, (List.range xs.length).all (truthAt pb xs) = xs.all pb
  | [] => rfl
  | x :: xs => by
    have tail : (fun j => truthAt pb (x :: xs) (j + 1)) = truthAt pb xs := funext fun _ => by simp [truthAt]
    have head : truthAt pb (x :: xs) 0 = pb x := by simp [truthAt]
    rw [List.length_cons, List.range_succ_eq_map, List.all_cons, List.all_map, head, List.all_cons, ← truths pb xs]
    exact congrArg (fun f => pb x && List.all (List.range xs.length) f) tail

section
variable {X : Cx} {pins : List (Addr × Obj)} {σ : L2.St} {H : Hp} {s : Shared}
/-- a value that is iterated: the iterator o is made at the heap's end, its items are those of the object at a -/
structure Feed (X : Cx) (s : Shared) (src : Value) (a : Addr) (its : Array Value) (o : Obj) (W : Nat → Heap → Prop) : Prop where
  made : ∀ {Q Er : Value → Shared → Prop}, Q (.ref s.heap.objs.size) { s with heap := s.heap.push o } → wpAny (model X.prog X.w) X.A (pyIter src) Q Er s
  there : ∃ u, s.heap.get? a = some u ∧ u.cls ≠ .none
  live : o.isFreed = false
  walks : ∀ Ar : Around, Ar.handled = none → Walks X.prog X.w Ar s.heap.objs.size [s.heap.objs.size, a] [s.heap.objs.size] its.size (fun i v => its[i]? = some v) W
  first : ∀ h : Heap, h.get? s.heap.objs.size = some o → (∀ u, s.heap.get? a = some u → h.get? a = some u) → W 0 h
theorem feed_tup {a : Addr} {its : Array Value} (t : s.heap.IsTuple a its) : ∃ o W, Feed X s (.ref a) a its o W := by
  obtain ⟨u, g, c, r⟩ := id t
  exact ⟨_, _, fun q => wpAny_pyIter_tuple t q, ⟨u, g, by rw [c]; simp⟩, rfl, fun _ q => Walks.tuple q _ _ (Nat.ne_of_lt (Heap.lt_size g)) its, fun _ e k => ⟨⟨_, e, rfl, rfl⟩, u, k u g, c, r⟩⟩
theorem feed_lst {a : Addr} {its : Array Value} (t : s.heap.IsList a its) : ∃ o W, Feed X s (.ref a) a its o W := by
  obtain ⟨u, g, c, r⟩ := id t
  exact ⟨_, _, fun q => wpAny_pyIter_list t q, ⟨u, g, by rw [c]; simp⟩, rfl, fun _ q => Walks.list q _ _ (Nat.ne_of_lt (Heap.lt_size g)) its, fun _ e k => ⟨⟨_, e, rfl, rfl⟩, u, k u g, c, r⟩⟩
theorem feed_of {a : Addr} {xs : List V} (I : Inv X pins σ H s) (q : SqT X.K H a xs ∨ SqL X.K H a xs) : ∃ (its : List Value) (o : Obj) (W : Nat → Heap → Prop), Vals xs its ∧ Feed X s (.ref a) a its.toArray o W := by
  rcases q with q | q
  · obtain ⟨its, r, t, _⟩ := I.tuple q
    obtain ⟨o, W, f⟩ := feed_tup (X := X) t
    exact ⟨its, o, W, r, f⟩
  · obtain ⟨its, r, t, _⟩ := I.list q
    obtain ⟨o, W, f⟩ := feed_lst (X := X) t.isList
    exact ⟨its, o, W, r, f⟩
/-- the code object of a generator expression: found in the def's table, or made and written there -/
theorem code_found {Ar : Around} {Er : Value → Shared → Prop} {Q : Value → Shared → Prop} {env : Env} {c P : Addr} {ps : Array Value} {gpos : Pos} {qual : Str} {scope : Scope} (hc : env.code = .ref c) (cd : PySem.W.CodeHd s.heap c P) (tb : s.heap.get? P = some { cls := .none, data := .fields ps }) (tr : TriplesOk ps.toList)
    (k : ∀ (v : Value) (h : Heap) (tk : Nat) (more : Array Value), Heap.ExtBut P s.heap h → s.heap.objs.size ≤ h.objs.size → h.get? P = some { cls := .none, data := .fields (ps ++ more) } → TriplesOk (ps ++ more).toList → Q v { s with heap := h, toks := tk }) :
    wpAny (model X.prog X.w) Ar (genexprCode env gpos qual scope) Q Er s := by
  by_cases z : ∃ v, codeAmong gpos ps.toList = some v
  · obtain ⟨v, z⟩ := z
    exact wpAny_genexprCode_hit hc (cd.code tb tr) z (k v s.heap s.toks #[] (Heap.ExtBut.refl _ _) (Nat.le_refl _) (by rw [Array.append_empty]; exact tb) (by rw [Array.append_empty]; exact tr))
  · have z' : codeAmong gpos ps.toList = none := Option.eq_none_iff_forall_ne_some.mpr fun v e => z ⟨v, e⟩
    exact wpAny_genexprCodeX hc (cd.code tb tr) (cd.tab tb) z' fun _ h tk x1 x2 x3 ⟨_, _, _, _, _, _, _, _, _, _, _, _, _, _, _, _, _, _, _, tr', _⟩ _ x6 _ => k _ h tk _ x1 (Nat.le_trans x2 (Nat.le_of_lt x3)) x6.2 tr'
/-- what a walk of the generator at g is: its truths are those of the test, and what it leaves -/
structure Ready (X : Cx) (pins : List (Addr × Obj)) (σ : L2.St) (H1 : Hp) (P : Addr) (xs : List V) (pb : V → Bool) (g : Addr) (s5 : Shared) (fp wr : List Addr) (G : Array GenState → Array GenState → Prop) (F : Nat → Value → Prop) (St : Nat → Shared → Prop) : Prop where
  walk : WalksS X.prog X.w X.A.in1 g fp wr G xs.length F St
  at0 : St 0 s5
  truth : TruthOf X.prog X.w X.A.in1 F (truthAt pb xs)
  left : ∀ s', Moved wr G s5 s' → ∃ H2, Tabbed P H1 H2 ∧ Inv X pins σ H2 s'
theorem gen_feed {c P : Addr} {elt iter : Expr} {x : Str} {px gpos : Pos} {scope : Scope} {te : TE} {k : Nat} {Q : Value → Shared → Prop} {R : List V → (V → Bool) → Hp → Prop}
    (room : Room k X.A) (TB : TabB X.base X.mg c P) (hcode : X.env.code = .ref c) (S : GenS X.env scope x) (hi : PE X iter te) (fold : ∀ v, genFold iter X.env v = pure v) (I : Inv X pins σ H s)
    (h : te σ H fun v H1 => ∃ (a : Addr) (xs : List V) (pb : V → Bool), v = .ref a ∧ (SqT X.K H1 a xs ∨ SqL X.K H1 a xs) ∧ (∀ v ∈ xs, ∃ t, TyA X.K H1 v t) ∧ (∀ (pins : List (Addr × Obj)) (s : Shared), Inv X pins σ H1 s → EltV X s.heap scope x elt pb xs) ∧ TabG H1 P ∧ R xs pb H1)
    (goal : ∀ xs pb H1 g s5 fp wr G F St, R xs pb H1 → Ready X pins σ H1 P xs pb g s5 fp wr G F St → Q (.ref g) s5) :
    wpAny (model X.prog X.w) X.A (eval (.GeneratorExp elt [⟨.Name x px, iter, [], 0⟩] scope gpos) X.env) Q X.xe s := by
  refine wpAny_GeneratorExp_walksQD room.hd S.co (closure_ok S.free) S.cell S.dot S.loc S.kind (by have := room.dp; omega) ?_ fold
  refine thn (hi.run pins s σ H _ I h) fun src s1 ⟨_, H1, I1, rel, a, xs, pb, e1, q, types, tests, ⟨ps, tracked, triples⟩, r⟩ => ?_
  subst e1
  cases rel
  obtain ⟨its, o, W, vals, feed⟩ := feed_of I1 q
  have same := vals.length
  have tab : s1.heap.get? P = some { cls := .none, data := .fields ps } := I1.hok P _ tracked
  obtain ⟨ua, ga, ca⟩ := feed.there
  have aP : a ≠ P := fun z => by
    rw [z, tab] at ga
    exact ca (by rw [← Option.some.inj ga])
  have ltP := Heap.lt_size tab
  have lta := Heap.lt_size ga
  refine feed.made ⟨I1.nolimit.push o, code_found hcode (TB.code.keeps fun b u e => Heap.get?_push_of_some _ (I1.bk b u e)) (Heap.get?_push_of_some _ tab) triples fun code h3 tk more ext size tab3 tr3 => ?_⟩
  -- what stands in h3
  have grown : s1.heap.objs.size + 1 ≤ h3.objs.size := by rw [← Heap.size_push s1.heap o]; exact size
  have stay : ∀ b u, b ≠ P → s1.heap.get? b = some u → h3.get? b = some u := fun b u n e => ext b u n (Heap.get?_push_of_some _ e)
  have notP : ∀ b u, X.base.get? b = some u → b ≠ P := fun b u e z => by
    have free := (I1.bs b u e).2
    rw [z, tracked] at free
    cases free
  have limit := I1.nolimit
  have cP : cStatics ≠ P ∧ cStatics < s1.heap.objs.size := by
    obtain ⟨_, ns, _⟩ := limit
    refine ⟨fun z => ?_, ns.lt⟩
    obtain ⟨oc, es, ep, g, d, _⟩ := ns
    rw [z, tab] at g
    rw [← Option.some.inj g] at d
    exact Data.noConfusion d
  obtain ⟨bm, ob, b1, b2, b3, b4, b5, b6, b7, b8⟩ := TB.bm
  have globals : h3.Ns X.env.globals X.mg := by rw [I1.ok.glob]; exact ((I1.mod.glob.keeps I1.bk).push o).extBut ext TB.gP
  refine wpAny_builtinsFor globals b1 b2 (stay _ _ b4 (I1.bk _ _ b5)) b6 b7 b8 ?_
  refine ⟨_, _, _, _, _, W, fun _ => true, fun i y => ∃ v, xs[i]? = some v ∧ TrueAs (pb v) y, rfl, feed.walks, ?_, ?_, (limit.push o).extBut ext cP.1, ?_, fun later keeps => ⟨?_, ?_⟩, ?_⟩
  · exact feed.first h3 (ext _ _ (Nat.ne_of_gt ltP) (Heap.get?_push_size _ feed.live)) fun u g => stay a u aP g
  · intro b hb
    show b < h3.objs.size
    simp only [List.mem_cons, List.not_mem_nil, or_false] at hb
    rcases hb with rfl | rfl
    · exact grown
    · exact Nat.lt_of_lt_of_le lta (Nat.le_of_succ_le grown)
  · simpa using Nat.ne_of_lt cP.2
  · -- no test of the clause
    intro _ _ _ _ _ _ _ _ _ _ _ _ _
    simp only [List.forIn_nil]
    exact wpAny_pure ⟨rfl, keeps_refl _⟩
  · -- the element
    intro Ar Er i v s2 m2 quiet deep wide item _ names bound rest
    have kept : ∀ b u, b ≠ P → s1.heap.get? b = some u → s2.heap.get? b = some u := fun b u n e => by
      have lt := Heap.lt_size e
      exact rest b (List.mem_range.mpr (Nat.lt_of_lt_of_le lt (Nat.le_of_succ_le grown))) (by simpa using Nat.ne_of_lt lt) u (keeps b u (stay b u n e))
    have item' : its[i]? = some v := by simpa using item
    have lt : i < xs.length := by have := (List.getElem?_eq_some_iff.mp item').1; omega
    have at_ : xs[i]? = some xs[i] := List.getElem?_eq_getElem lt
    obtain ⟨u, gu, ru⟩ := vals.get at_
    rw [item'] at gu
    rw [← Option.some.inj gu] at ru
    obtain ⟨t, ty⟩ := types _ (List.mem_of_getElem? at_)
    have ty2 : TyH s2.heap xs[i] t := (tyH_of I1 ty).keep fun b ob _ g ⟨_, c⟩ => kept b ob (fun z => by
      rw [z, tab] at g
      rw [← Option.some.inj g] at c
      exact Value.noConfusion c) g
    exact wpAny_mono (tests pins s1 I1 _ (List.mem_of_getElem? at_) _ Ar Er v t s2 ru ty2 ⟨quiet, deep, wide, rfl, I1.ok.glob, rfl, fun b ob g => kept b ob (notP b ob g) (I1.bk b ob g), ⟨m2, names, bound⟩, rfl, fun c v ⟨o, g, d⟩ => ⟨o, kept c o (fun z => by
      rw [z, tab] at g
      rw [← Option.some.inj g] at d
      exact Data.noConfusion d) g, d⟩⟩) (fun y z ⟨y1, y2⟩ => ⟨⟨_, at_, y1⟩, y2⟩) fun _ _ e => e
  · intro g h5 tk5 gs bare _ _ kept5 walk at0
    have every : passing (fun _ => true) its.toArray.size 0 = List.range xs.length := by rw [GxR.passing_true, List.size_toArray, same]
    rw [every, List.length_range] at walk
    refine goal xs pb H1 g _ _ _ _ _ _ r ⟨walk.in4_1, at0, ?_, fun s' moved => ?_⟩
    · rintro j y z Qz Ez ⟨i, hij, v, gv, truth⟩ qz
      have ei : i = j := by
        obtain ⟨_, ej⟩ := List.getElem?_eq_some_iff.mp hij
        simpa using ej.symm
      subst ei
      have qz' : Qz (truthAt pb xs i) z := qz
      simp only [truthAt, gv, Option.map_some, Option.getD_some] at qz'
      rcases truth with rfl | ⟨n, t, rfl, en⟩
      · exact wpAny_truthy_bool qz'
      · exact truthy_int (en ▸ qz')
    · have outside : ∀ b u, s1.heap.get? b = some u → b ∉ h3.objs.size :: [s1.heap.objs.size] := fun b u e z => by
        have lt := Heap.lt_size e
        simp only [List.mem_cons, List.not_mem_nil, or_false] at z
        have below : b < h3.objs.size := Nat.lt_of_lt_of_le lt (Nat.le_of_succ_le grown)
        exact z.elim (Nat.ne_of_lt below) (Nat.ne_of_lt lt)
      have J := inv_tab (more := more) (h' := s'.heap) (g' := s'.gens) (d' := s'.drawn) (t' := s'.toks) I1 tracked (fun b u n e => moved.heap b u (outside b u e) (kept5 b u (stay b u n e))) (moved.heap P _ (outside P _ tab) (kept5 P _ tab3)) (AllBare.movedS (I1.bare.push bare) moved)
      rw [sh_eta s1 s' moved.os] at J
      exact ⟨_, ⟨⟨_, upd_same, tr3⟩, fun b n => upd_ne n⟩, J⟩

/-- all(test for x in e), e a tuple or a list -/
def tAllV (X : Cx) (scope : Scope) (x : Str) (elt : Expr) (P : Addr) (te : TE) : TE := fun σ H Q => te σ H fun v H1 => ∃ (a : Addr) (xs : List V) (pb : V → Bool), v = .ref a ∧ (SqT X.K H1 a xs ∨ SqL X.K H1 a xs) ∧ (∀ v ∈ xs, ∃ t, TyA X.K H1 v t) ∧ (∀ (pins : List (Addr × Obj)) (s : Shared), Inv X pins σ H1 s → EltV X s.heap scope x elt pb xs) ∧ TabG H1 P ∧
  ∀ H2, Tabbed P H1 H2 → Q (.bl (xs.all pb)) H2
theorem pe_allV {c P : Addr} {elt iter : Expr} {x : Str} {px p pos gpos : Pos} {scope : Scope} {te : TE} {k : Nat}
    (room : Room k X.A) (hg : Gl X "all") (hm : X.mg "all" = none) (hb : bootBuiltins "all" = some (.builtin "all")) (TB : TabB X.base X.mg c P) (hcode : X.env.code = .ref c) (S : GenS X.env scope x) (hi : PE X iter te) (fold : ∀ v, genFold iter X.env v = pure v)
    (stars : starEach [.GeneratorExp elt [⟨.Name x px, iter, [], 0⟩] scope gpos] X.env = (false, eval (.GeneratorExp elt [⟨.Name x px, iter, [], 0⟩] scope gpos) X.env) :: starEach [] X.env := by rfl) :
    PE X (.Call (.Name "all" p) [.GeneratorExp elt [⟨.Name x px, iter, [], 0⟩] scope gpos] [] pos) (tAllV X scope x elt P te) := by
  constructor
  intro pins s σ H Q I h
  have whole : wpAny (model X.prog X.w) X.A (eval (.GeneratorExp elt [⟨.Name x px, iter, [], 0⟩] scope gpos) X.env) (fun v z => wpAny (model X.prog X.w) X.A (call (.builtin "all") [v]) (EP X pins σ Q) X.xe z) X.xe s :=
    gen_feed (R := fun xs pb H1 => ∀ H2, Tabbed P H1 H2 → Q (.bl (xs.all pb)) H2) room TB hcode S hi fold I h fun xs pb H1 g z fp wr G F St r ready =>
      call_all_walkS (ready.walk.self 0 _ _ _ ready.at0 ⟨g, fp, wr, G, _, F, St, _, rfl, ready.walk, ready.at0, ready.truth, fun s' moved =>
        let ⟨H2, t, J⟩ := ready.left s' moved
        ⟨.bl _, H2, J, rfl, by rw [truths pb xs]; exact r H2 t⟩⟩)
  refine wpAny_Call_Name_kw (ld_blt I hg hm hb (PyProof.Rows.callWith_builtin1 ?_ stars rfl))
  rw [stars]
  exact Calls.spliced_cons (wpAny_mono whole (fun _ _ q => Calls.spliced_nil q) fun _ _ e => e)
end
end SM
namespace SM
open PySem PySem.Spec PyProof.Rows L2 HT
/-! ### a tuple walked backwards by its slice -/
section
variable {pr : Program} {wd : World} {Ar : Around} {Ex : Value → Shared → Prop} {st : Shared}
/-- the slice with a step alone, over n items, step −1: from the last place, n places -/
theorem back_places {sl : Addr} {step : Value} {n : Nat} {Post : Int × Int × Nat → Shared → Prop} (at_ : st.heap.IsSliceOf sl .none .none step) (one : IsPart step (some (-1))) (post : Post ((n : Int) - 1, -1, n) st) :
    wpAny (model pr wd) Ar (Builtin.Slice.sliceApplied (.ref sl) (pure (n : Int))) Post Ex st := by
  have places : Builtin.Slice.slicePlaces ((n : Int) - 1) (-1) (-1) = n := by simp [Builtin.Slice.slicePlaces]; omega
  have from_ : Builtin.Slice.sliceAdjust none none (-1) (n : Int) = ((n : Int) - 1, -1) := by simp [Builtin.Slice.sliceAdjust]
  have three : ∀ {R : Value × Value × Value → Shared → Prop}, R (.none, .none, step) st → wpAny (model pr wd) Ar (Builtin.Slice.sliceFields (.ref sl)) R Ex st := fun r => by
    obtain ⟨ob, g, _, fs⟩ := at_
    exact wpAny_bind (wpAny_field g fs (x := .none) rfl (wpAny_bind (wpAny_field g fs (x := .none) rfl (wpAny_bind (wpAny_field g fs (x := step) rfl (wpAny_pure r))))))
  have whole : wpAny (model pr wd) Ar (pure ((n : Int) - 1, (-1 : Int), Builtin.Slice.slicePlaces ((n : Int) - 1) (-1) (-1)) : Sem (Int × Int × Nat)) Post Ex st := wpAny_pure (by rw [places]; exact post)
  unfold Builtin.Slice.sliceApplied
  refine wpAny_bind (three (wpAny_bind (slicePart_ one ?_)))
  change wpAny _ _ (if ((-1 : Int) == 0) = true then _ else _) _ _ st
  simp only [show ((-1 : Int) == 0) = false from rfl, Bool.false_eq_true, if_false]
  refine wpAny_bind (slicePart_none (wpAny_bind (slicePart_none (wpAny_bind (wpAny_pure ?_)))))
  change wpAny _ _ (match Builtin.Slice.sliceAdjust none none (-1) (n : Int) with | (lo, hi) => pure (lo, (-1 : Int), Builtin.Slice.slicePlaces lo hi (-1))) _ _ st
  rw [from_]
  exact whole
theorem filterMap_on {α β : Type} {f g : α → Option β} {l : List α} (same : ∀ a ∈ l, f a = g a) : l.filterMap f = l.filterMap g := by
  induction l with
  | nil => rfl
  | cons a l ih => simp only [List.filterMap_cons, same a (List.mem_cons_self ..), ih fun b hb => same b (List.mem_cons_of_mem _ hb)]
/-- the items at the places n−1, .., 0 -/
theorem back_items (xs : Array Value) : ((List.range xs.size).filterMap fun (m : Nat) => xs[((xs.size : Int) - 1 + (m : Int) * (-1)).toNat]?) = xs.toList.reverse := by
  have turn : (List.range xs.size).filterMap (fun (m : Nat) => xs[((xs.size : Int) - 1 + (m : Int) * (-1)).toNat]?) = (List.range xs.size).filterMap (fun m => xs[xs.size - 1 - m]?) :=
    filterMap_on fun m hm => by rw [show ((xs.size : Int) - 1 + (m : Int) * (-1)).toNat = xs.size - 1 - m by have := List.mem_range.mp hm; omega]
  have maps : (List.range xs.size).filterMap (fun m => xs[xs.size - 1 - m]?) = ((List.range xs.size).map fun k => xs.size - 1 - k).filterMap (fun k => xs[k]?) := (List.filterMap_map ..).symm
  rw [turn, maps, PySem.W.krv_range, List.filterMap_reverse, PySem.W.krv_all]
/-- t at a slice object: a new tuple of the items at the places, when they are not all of it in their order -/
theorem tup_at_slice {t sl : Addr} {xs : Array Value} {lo step : Int} {k : Nat} {picked : List Value} {Post : Value → Shared → Prop} (tup : IsTup st.heap t xs) (isSl : st.TypeIs (.ref sl) "slice")
    (places : ∀ (Ai : Around) {R : Int × Int × Nat → Shared → Prop}, R (lo, step, k) st → wpAny (model pr wd) Ai (Builtin.Slice.sliceApplied (.ref sl) (pure (xs.size : Int))) R Ex st) (part : (lo == 0 && step == 1 && k == xs.size) = false)
    (items : ((List.range k).filterMap fun (m : Nat) => xs[(lo + (m : Int) * step).toNat]?) = picked) (fits : picked.toArray.size ≤ sizeLine) (post : Post (.ref st.heap.objs.size) { st with heap := st.heap.push { cls := .type "tuple", data := .seq picked.toArray } }) :
    wpAny (model pr wd) Ar (getItem (.ref t) (.ref sl)) Post Ex st := by
  have made : ∀ (Ai : Around) {R : Value → Shared → Prop}, R (.ref st.heap.objs.size) { st with heap := st.heap.push { cls := .type "tuple", data := .seq picked.toArray } } → wpAny (model pr wd) Ai (Builtin.Tuple.tupleExact picked.toArray) R Ex st := fun _ _ r => wpAny_newObj_type r fits
  have body : wpAny (model pr wd) Ar.in1 (Builtin.«tuple.__getitem__» ⟨[.ref t, .ref sl], []⟩) (fun fin s' => ∃ v, fin = .done (.ret v) ∧ Post v s') Ex st := by
    change wpAny _ _ (Builtin.Tuple.tupleItemsOf (.ref t) >>= _) _ _ st
    refine wpAny_bind (tupleItemsOf_ tup (wpAny_bind (wpAny_typeOf isSl ?_)))
    simp only [show (Value.type "slice" == Value.type "slice") = true from by decide, if_true]
    refine wpAny_bind (places _ ?_)
    simp only [part, items, Bool.false_eq_true, if_false]
    exact wpAny_bind (made _ (wpAny_pure ⟨_, rfl, post⟩))
  unfold getItem
  refine wpAny_holding (wpAny_bind (wpAny_sequenceKey tup.typeIs (by decide) (wpAny_bind ?_)))
  exact wpAny_callSpecial?_slot (name := Str.ofString "__getitem__") tup.typeIs PyProof.Rows.slot_tuple_getitem
    (wpAny_call_entry PyProof.Rows.slot_tuple_getitem tup.typeIs PyProof.Rows.entry_tuple_getitem (wpAny_mono body (fun _ _ ⟨v, e, p⟩ => ⟨v, e, wpAny_pure p⟩) fun _ _ e => e) (PyProof.Rows.args_tuple_getitem _ _))
end
section
variable {X : Cx}
/-- what x[::step] is asked to be, over the abstract heap: the slice object is made -/
def StepR (X : Cx) (r : V → Option Int → Hp → VK → Prop) : Prop :=
  ∀ (ps : List (Addr × Obj)) (s : Shared) (σ : L2.St) (H : Hp) (x : V) (v step : Value) (o : Option Int) (sl : Addr) (Q : VK), Inv X ps σ H s → RelV x v → s.heap.IsSliceOf sl .none .none step → IsPart step o → r x o H Q →
    ∃ T id, typeLookup (.type T) "__getitem__" = pure (some (.builtin id)) ∧ s.TypeIs v T ∧ wpAny (model X.prog X.w) X.A (getItem v (.ref sl)) (EP X ps σ Q) X.xe s
theorem part_none {ps : List (Addr × Obj)} {σ : L2.St} {H : Hp} {s : Shared} {R : Value → Shared → Prop} {Er : Value → Shared → Prop} {env : Env} (h : R .none s) : wpAny (model X.prog X.w) X.A (evalPart none env) R Er s := by
  rw [evalPart_none]
  exact wpAny_pure h
theorem pe_step {e : Expr} {stx : Option Expr} {te : TE} {ts : TO} {r : V → Option Int → Hp → VK → Prop} {pos pos' : Pos} (R : StepR X r) (he : PE X e te) (hs : PO X stx ts) (hop : ∀ v sl : Value, subscripted (.Slice none none stx pos') false v sl = operate [v, sl] (getItem v sl)) :
    PE X (.Subscript e (.Slice none none stx pos') pos) (fun σ H Q => te σ H fun x H1 => ts σ H1 fun o H2 => r x o H2 Q) := by
  constructor
  intro ps s σ H Q I h
  refine Subscript_ (thn (he.run ps s σ H _ I h) fun v sa ⟨x, Ha, Ia, rx, qa⟩ => wpAny_Slice ?_)
  refine part_none (X := X) (ps := ps) (σ := σ) (H := H) (part_none (X := X) (ps := ps) (σ := σ) (H := H) (thn (hs.run ps sa σ Ha _ Ia qa) fun step sb ⟨o, Hb, Ib, po, qb⟩ => ?_))
  have Ic : Inv X ps σ Hb { sb with heap := sb.heap.push { cls := .type "slice", data := .fields #[.none, .none, step] } } := Ib.kept (t' := sb.toks) fun _ _ => Heap.get?_push_of_some _
  obtain ⟨T, id, hT, tv, run⟩ := R ps _ σ Hb x v step o sb.heap.objs.size Q Ic rx (Heap.IsSliceOf.new ..) po qb
  change wpAny _ _ (subscriptTail e (.Slice none none stx pos') v (.ref sb.heap.objs.size)) _ _ _
  exact tail_any (ops := [v, .ref sb.heap.objs.size]) tv hT run (hop _ _)
/-- t[::-1], t a tuple -/
theorem step_tup : StepR X (fun x o H Q => o = some (-1) ∧ ∃ a xs, x = .ref a ∧ SqT X.K H a xs ∧ ∀ p, H p = none → Q (.ref p) (upd H p (.tup xs.reverse))) := by
  rintro ps s σ H x v step o sl Q I rx isl po ⟨rfl, a, xs, rfl, hx, q⟩
  cases rx
  obtain ⟨its, rel, tup, small⟩ := I.tuple hx
  have tsl : s.TypeIs (.ref sl) "slice" := let ⟨ob, g, c, _⟩ := isl; ⟨ob, g, c⟩
  have len : its.length = xs.length := rel.length.symm
  refine ⟨_, _, PyProof.Rows.slot_tuple_getitem.lookup, tup.typeIs, tup_at_slice (lo := (its.toArray.size : Int) - 1) (step := -1) (k := its.toArray.size) tup tsl (fun _ _ => back_places isl po) (by simp) (back_items _) ?_ ?_⟩
  · simp only [List.size_toArray, List.length_reverse]
    omega
  · refine ⟨.ref s.heap.objs.size, _, I.laid (t' := s.toks) (o := .tup xs.reverse) (fun _ _ => Heap.get?_push_of_some _) (Nat.le_refl _) ⟨by simpa using small, its.reverse, rel.reverse, IsTup.new _ _⟩, rfl, q _ (I.hok.fresh (Nat.le_refl _))⟩
def tRevT (K : PySem.W.Frag) (te : TE) : TE := fun σ H Q => te σ H fun x H1 => ∃ a xs, x = .ref a ∧ SqT K H1 a xs ∧ ∀ p, H1 p = none → Q (.ref p) (upd H1 p (.tup xs.reverse))
theorem pe_revT {e : Expr} {te : TE} {k : Nat} {p1 p2 p3 pos : Pos} (he : PE X e te) : PE X (.Subscript e (.Slice none none (some (.UnaryOp .USub (.Constant (.int 1) k p1) p2)) p3) pos) (tRevT X.K te) := by
  constructor
  intro ps s σ H Q I h
  refine (pe_step step_tup he (po_some (pe_un un_neg pe_int)) (fun _ _ => by with_unfolding_all rfl)).run ps s σ H Q I ?_
  have same : (fun (x : V) (H1 : Hp) => ∃ a xs, x = .ref a ∧ SqT X.K H1 a xs ∧ ∀ p, H1 p = none → Q (.ref p) (upd H1 p (.tup xs.reverse))) =
      fun x H1 => tPart (tUn (rU fun i => .int (-i)) (tC (.int 1))) σ H1 fun o H2 => o = some (-1) ∧ ∃ a xs, x = .ref a ∧ SqT X.K H2 a xs ∧ ∀ p, H2 p = none → Q (.ref p) (upd H2 p (.tup xs.reverse)) :=
    funext fun _ => funext fun _ => propext ⟨fun r => ⟨1, rfl, -1, rfl, rfl, r⟩, fun ⟨i, e1, j, e2, _, r⟩ => r⟩
  exact same ▸ h
end
end SM
namespace SM
open PySem PySem.Spec PyProof.Rows L2 GxR
/-! ### is_octet of one item -/
def isOct : V → Bool
  | .int i => decide (0 ≤ i ∧ i ≤ 255)
  | _ => false
/-- what isinstance asks of such a value -/
theorem kitH {K : PySem.W.Frag} {h : Heap} {v : V} {u : Value} {t : String} (rv : RelV v u) (ty : TyH h v t) : ∃ P : Heap → Prop, PySem.W.KitX K u (.type t) P ∧ P h ∧ u ≠ .builtin "__main__.__loader__#opaque" := by
  cases v with
  | ref a =>
    cases rv
    obtain ⟨z, o, e, c⟩ := ty
    rcases z with rfl | rfl
    · exact ⟨_, PySem.W.kitx_list, ⟨o, e, c⟩, fun z => nomatch z⟩
    · exact ⟨_, PySem.W.kitx_tuple, ⟨o, e, c⟩, fun z => nomatch z⟩
  | int i =>
    obtain ⟨tk, rfl⟩ := rv
    cases ty
    exact ⟨_, PySem.W.kitx_int, True.intro, fun z => nomatch z⟩
  | bl b =>
    cases rv
    cases ty
    exact ⟨_, PySem.W.kitx_bool, True.intro, fun z => nomatch z⟩
  | str x =>
    obtain ⟨tk, rfl⟩ := rv
    cases ty
    exact ⟨_, PySem.W.kitx_str, True.intro, fun z => nomatch z⟩
  | non =>
    cases rv
    cases ty
    exact ⟨_, PySem.W.kitx_none, True.intro, fun z => nomatch z⟩
  | byt b => exact False.elim ty
  | flt b => exact False.elim ty
  | ty n => exact False.elim ty
/-- isinstance(v, int), isinstance(v, bool) -/
def isI (t : String) : Bool := t == "int" || t == "bool"
theorem kit_int {K : PySem.W.Frag} {h : Heap} {v : V} {t : String} (ty : TyH h v t) : PySem.W.kitOne K (.type t) (.type "int") = some (isI t) := by
  cases v with
  | ref a => obtain ⟨z, _⟩ := ty; rcases z with rfl | rfl <;> exact kit_ty (by decide +kernel)
  | int i => cases ty; exact kit_ty (by decide +kernel)
  | bl b => cases ty; exact kit_ty (by decide +kernel)
  | str x => cases ty; exact kit_ty (by decide +kernel)
  | non => cases ty; exact kit_ty (by decide +kernel)
  | byt b => exact False.elim ty
  | flt b => exact False.elim ty
  | ty n => exact False.elim ty
theorem kit_bool {K : PySem.W.Frag} {h : Heap} {v : V} {t : String} (ty : TyH h v t) : PySem.W.kitOne K (.type t) (.type "bool") = some (t == "bool") := by
  cases v with
  | ref a => obtain ⟨z, _⟩ := ty; rcases z with rfl | rfl <;> exact kit_ty (by decide +kernel)
  | int i => cases ty; exact kit_ty (by decide +kernel)
  | bl b => cases ty; exact kit_ty (by decide +kernel)
  | str x => cases ty; exact kit_ty (by decide +kernel)
  | non => cases ty; exact kit_ty (by decide +kernel)
  | byt b => exact False.elim ty
  | flt b => exact False.elim ty
  | ty n => exact False.elim ty
/-- the module's facts over a heap -/
structure At (K : PySem.W.Frag) (mg : Str → Option Value) (h : Heap) : Prop where
  kin : K.In h
  glob : h.Ns mainGlobals mg
  blt : ∃ mb, h.Ns builtinsNs mb ∧ ∀ x : Str, x ≠ "__name__" → mb x = bootBuiltins x
  lim : h.NoLimit
theorem At.keeps {K : PySem.W.Frag} {mg : Str → Option Value} {h h' : Heap} (a : At K mg h) (k : ∀ b o, h.get? b = some o → h'.get? b = some o) : At K mg h' :=
  ⟨a.kin.keeps k, a.glob.keeps k, let ⟨mb, x, y⟩ := a.blt; ⟨mb, x.keeps k, y⟩, a.lim.keeps k⟩
theorem at_of {K : PySem.W.Frag} {mg : Str → Option Value} {base h : Heap} (M : Mod K mg base) (k : ∀ b o, base.get? b = some o → h.get? b = some o) : At K mg h :=
  ⟨M.kin.keeps k, M.glob.keeps k, let ⟨mb, x, y⟩ := M.blt; ⟨mb, x.keeps k, y⟩, M.nolimit.keeps k⟩
section
variable {P : Program} {w : World} {A : Around} {E : Value → Shared → Prop} {s : Shared} {K : PySem.W.Frag} {mg : Str → Option Value} {env : Env}
theorem nm_glob {x : Str} {u : Value} {pos : Pos} {Q : Value → Shared → Prop} (a : At K mg s.heap) (hk : env.scope.kind = .function) (hge : env.globals = mainGlobals) (hg : env.kindOf x = some .globalImplicit) (hm : mg x = some u) (h : Q u s)
    (hd : (x == ("__debug__" : Str)) = false := by decide) : wpAny (model P w) A (eval (.Name x pos) env) Q E s :=
  Calls.Name_function_global hk hg (Calls.loadGlobal_global (by rw [hge]; exact a.glob) hm h) hd
theorem nm_blt {x : Str} {u : Value} {pos : Pos} {Q : Value → Shared → Prop} (a : At K mg s.heap) (hk : env.scope.kind = .function) (hge : env.globals = mainGlobals) (hbe : env.builtins = builtinsNs) (hg : env.kindOf x = some .globalImplicit) (hm : mg x = none) (hv : bootBuiltins x = some u) (h : Q u s)
    (hn : x ≠ "__name__" := by decide) (hd : (x == ("__debug__" : Str)) = false := by decide) : wpAny (model P w) A (eval (.Name x pos) env) Q E s := by
  obtain ⟨mb, h1, h2⟩ := a.blt
  exact Calls.Name_function_global hk hg (Calls.loadGlobal_builtin (by rw [hge]; exact a.glob) hm (by rw [hbe]; exact h1) ((h2 x hn).trans hv) h) hd
theorem nm_loc {x : Str} {u : Value} {pos : Pos} {m : Str → Option Value} {Q : Value → Shared → Prop} (hk : env.scope.kind = .function) (hl : env.kindOf x = some .local) (hn : s.heap.Ns env.locals m) (hm : m x = some u) (h : Q u s)
    (hd : (x == ("__debug__" : Str)) = false := by decide) : wpAny (model P w) A (eval (.Name x pos) env) Q E s := wpAny_Name (wpAny_loadName_local hk hl hn hm h) hd
/-- isinstance(x, T) of a local name, T a built-in type -/
theorem isi_at {x T : Str} {tn : String} {v : V} {u : Value} {t : String} {b : Bool} {m : Str → Option Value} {p1 p2 p3 p4 : Pos} {Q : Value → Shared → Prop} (a : At K mg s.heap) (hk : env.scope.kind = .function) (hge : env.globals = mainGlobals) (hbe : env.builtins = builtinsNs)
    (hi : env.kindOf "isinstance" = some .globalImplicit) (mi : mg "isinstance" = none) (hT : env.kindOf T = some .globalImplicit) (mT : mg T = none) (bT : bootBuiltins T = some (.type tn)) (hx : env.kindOf x = some .local) (hn : s.heap.Ns env.locals m) (hm : m x = some u) (rv : RelV v u) (ty : TyH s.heap v t)
    (e : PySem.W.kitOne K (.type t) (.type tn) = some b) (h : ∀ tk, Q (.bool b) { s with toks := tk })
    (nT : T ≠ "__name__" := by decide) (dT : (T == ("__debug__" : Str)) = false := by decide) (dx : (x == ("__debug__" : Str)) = false := by decide)
    (h1 : starEach [.Name x p2, .Name T p3] env = (false, eval (.Name x p2) env) :: starEach [.Name T p3] env := by rfl) (h2 : starEach [.Name T p3] env = (false, eval (.Name T p3) env) :: starEach [] env := by rfl) (hpl : (backTo p4 (starEach [.Name T p3] env)).any (·.1) = false := by rfl) :
    wpAny (model P w) A (eval (.Call (.Name "isinstance" p1) [.Name x p2, .Name T p3] [] p4) env) Q E s := by
  refine wpAny_Call_Name_kw (nm_blt a hk hge hbe hi mi (by decide +kernel : bootBuiltins "isinstance" = some (.builtin "isinstance")) ?_)
  refine PyProof.Rows.callWith_builtin1 ?_ h1 hpl
  rw [h1]
  show wpAny _ _ (spliced ((false, eval (.Name x p2) env) :: backTo p4 (starEach [.Name T p3] env))) _ _ s
  refine Calls.spliced_cons (nm_loc hk hx hn hm ?_ dx)
  rw [h2]
  show wpAny _ _ (spliced ((false, eval (.Name T p3) env) :: backTo p4 (starEach [] env))) _ _ s
  refine Calls.spliced_cons (nm_blt a hk hge hbe hT mT bT (Calls.spliced_nil ?_) nT dT)
  obtain ⟨PP, Z, p, hne⟩ := kitH (K := K) rv ty
  exact PySem.W.kia_one Z a.kin p e hne h
end
/-- the text of is_octet -/
def octBody (p1 p2 p3 p4 p5 p6 p7 p8 p9 p10 p11 p12 p13 p14 p15 : Pos) (k1 k2 : Nat) : List Stmt :=
  [.Return (some (.BoolOp .And [.Call (.Name "isinstance" p1) [.Name "value" p2, .Name "int" p3] [] p4, .UnaryOp .Not (.Call (.Name "isinstance" p5) [.Name "value" p6, .Name "bool" p7] [] p8) p9,
    .Compare (.Constant (.int 0) k1 p10) [.LtE, .LtE] [.Name "value" p11, .Constant (.int 255) k2 p12] p13] p14)) p15]
section
variable {P : Program} {w : World} {A : Around} {s : Shared} {K : PySem.W.Frag} {mg : Str → Option Value}
theorem code_isoct {st : Stmt} {f : Addr} {fd : FuncData} {p1 p2 p3 p4 p5 p6 p7 p8 p9 p10 p11 p12 p13 p14 p15 : Pos} {k1 k2 : Nat} {v : V} {u : Value} {t : String} (F : Fun K "is_octet" "is_octet" st f fd) (hb : defBody st = octBody p1 p2 p3 p4 p5 p6 p7 p8 p9 p10 p11 p12 p13 p14 p15 k1 k2)
    (S : FnScope ["value"] ["value"] (defScope st)) (bs : Binds K fd ["value"] []) (sv : (defScope st).names.lookup ("value" : Str) = some .local) (si : (defScope st).names.lookup ("isinstance" : Str) = some .globalImplicit) (s1 : (defScope st).names.lookup ("int" : Str) = some .globalImplicit) (s2 : (defScope st).names.lookup ("bool" : Str) = some .globalImplicit)
    (a : At K mg s.heap) (mi : mg "isinstance" = none) (m1 : mg "int" = none) (m2 : mg "bool" = none) (hroom : A.depth < recursionLimit) (rv : RelV v u) (ty : TyH s.heap v t) :
    codeAny (model P w) A (.call (.ref f) ⟨[u], []⟩) (fun r s' => r = .ok (.ret (.bool (isOct v))) ∧ Keeps s s') s := by
  obtain ⟨oc, od, kV, doc, pm, an, cdv, ct, osl, rfl, lk, hcd⟩ := F.ex
  have hbd := bs s [u] a.kin rfl
  refine Att.call_fn (binds := [("value", u)]) a.kin a.lim lk hcd hroom hbd (by rw [List.all_cons, List.all_nil, Bool.and_true]; show ((defScope st).names.lookup ("value" : Str) == some .local || _) = true; rw [sv]; rfl) (fun sC IC => ?_) S.co S.gen S.kind
  obtain ⟨h₁, tk₁, rfl⟩ := IC.toInCall.same
  have k : ∀ b o, s.heap.get? b = some o → h₁.get? b = some o := IC.toInCall.keep
  have hn := IC.toInCall.ns
  have a1 : At K mg h₁ := a.keeps k
  have ty1 : TyH h₁ v t := ty.keep fun b o _ e _ => k b o e
  have hv : bindL (envOfC "is_octet" (defScope st) s.heap.objs.size f cdv).kindOf [("value", u)] (fun _ => none) "value" = some u := by
    have z : (envOfC "is_octet" (defScope st) s.heap.objs.size f cdv).kindOf "value" = some .local := sv
    unfold bindL
    rw [z]
    unfold bindL
    simp
  rw [hb]
  show wpAny _ _ (execs (octBody p1 p2 p3 p4 p5 p6 p7 p8 p9 p10 p11 p12 p13 p14 p15 k1 k2) _) _ _ _
  unfold octBody
  generalize hE : envOfC "is_octet" (defScope st) s.heap.objs.size f cdv = env at hn hv ⊢
  have e1 : env.scope.kind = .function := by rw [← hE]; exact S.kind
  have e2 : env.globals = mainGlobals := by rw [← hE]; rfl
  have e3 : env.builtins = builtinsNs := by rw [← hE]; rfl
  have e4 : env.kindOf "value" = some .local := by rw [← hE]; exact sv
  have e5 : env.kindOf "isinstance" = some .globalImplicit := by rw [← hE]; exact si
  have e6 : env.kindOf "int" = some .globalImplicit := by rw [← hE]; exact s1
  have e7 : env.kindOf "bool" = some .globalImplicit := by rw [← hE]; exact s2
  have e8 : env.locals = s.heap.objs.size := by rw [← hE]; rfl
  rw [← e8] at hn
  have fin : ∀ (b : Bool) (tk : Nat), b = isOct v → ((Except.ok (Flow.ret (Value.bool b)) : Result) = Except.ok (Flow.ret (Value.bool (isOct v))) ∧ Keeps s { s with heap := h₁, toks := tk }) := fun b tk e => ⟨by rw [e], ⟨h₁, tk, rfl, k⟩⟩
  refine wpAny_execs_cons (wpAny_Return_some ?_)
  refine BoolOp_and (isi_at (s := { s with heap := h₁, toks := tk₁ }) a1 e1 e2 e3 e5 mi e6 m1 (by decide +kernel : bootBuiltins "int" = some (.type "int")) e4 hn hv rv ty1 (kit_int ty1) fun tk2 => wpAny_truthy_bool ?_)
  cases hI : isI t with
  | false =>
    refine fin false tk2 ?_
    cases v with
    | int i => cases ty; exact absurd hI (by decide)
    | _ => rfl
  | true =>
    refine BoolOp_and (UnaryOp_ (isi_at (s := { s with heap := h₁, toks := tk2 }) a1 e1 e2 e3 e5 mi e7 m2 (by decide +kernel : bootBuiltins "bool" = some (.type "bool")) e4 hn hv rv ty1 (kit_bool ty1) fun tk3 => not_of (wpAny_truthy_bool (wpAny_truthy_bool ?_))))
    cases hB : (t == "bool") with
    | true =>
      refine fin false tk3 ?_
      cases v with
      | int i => cases ty; exact absurd hB (by decide)
      | _ => rfl
    | false =>
      cases v with
      | int i =>
        obtain ⟨tk, rfl⟩ := rv
        refine BoolOp_one (Compare_chain (wpAny_Constant_int (chain_link (nm_loc e1 e4 hn hv ?_)))  (by with_unfolding_all rfl))
        refine PySem.P.le_int (wpAny_truthy_bool ?_)
        by_cases h0 : 0 ≤ i
        · rw [decide_eq_true h0]
          refine ite_tt (chain_last (wpAny_Constant_int (PySem.P.le_int (fin _ _ ?_))))
          show decide (i ≤ 255) = decide (0 ≤ i ∧ i ≤ 255)
          simp [h0]
        · rw [decide_eq_false h0]
          refine ite_ff (fin _ _ ?_)
          show false = decide (0 ≤ i ∧ i ≤ 255)
          simp [h0]
      | bl b => cases ty; exact absurd hB (by decide)
      | ref b => obtain ⟨z, _⟩ := ty; rcases z with rfl | rfl <;> exact absurd hI (by decide)
      | str x => cases ty; exact absurd hI (by decide)
      | non => cases ty; exact absurd hI (by decide)
      | byt b => exact False.elim ty
      | flt b => exact False.elim ty
      | ty n => exact False.elim ty
end
/-- the element is_octet(item) -/
theorem elt_isoct {X : Cx} {h0 : Heap} {scope : Scope} {st : Stmt} {f : Addr} {fd : FuncData} {p1 p2 p3 p4 p5 p6 p7 p8 p9 p10 p11 p12 p13 p14 p15 q1 q2 q3 : Pos} {k1 k2 k : Nat} {xs : List V} (M : Mod X.K X.mg X.base) (hr : Room k X.A)
    (F : Fun X.K "is_octet" "is_octet" st f fd) (g : X.mg "is_octet" = some (.ref f)) (hb : defBody st = octBody p1 p2 p3 p4 p5 p6 p7 p8 p9 p10 p11 p12 p13 p14 p15 k1 k2)
    (S : FnScope ["value"] ["value"] (defScope st)) (bs : Binds X.K fd ["value"] []) (sv : (defScope st).names.lookup ("value" : Str) = some .local) (si : (defScope st).names.lookup ("isinstance" : Str) = some .globalImplicit) (s1 : (defScope st).names.lookup ("int" : Str) = some .globalImplicit) (s2 : (defScope st).names.lookup ("bool" : Str) = some .globalImplicit)
    (mi : X.mg "isinstance" = none) (m1 : X.mg "int" = none) (m2 : X.mg "bool" = none) (hk : scope.kind = .function) (hg : scope.names.lookup ("is_octet" : Str) = some .globalImplicit) (hi : scope.names.lookup ("item" : Str) = some .local) :
    EltV X h0 scope "item" (.Call (.Name "is_octet" q1) [.Name "item" q2] [] q3) isOct xs := by
  rintro v hv cenv A' E' u t s₂ rv ty ⟨hA, hD, hU, hs, hge, hbe, kb, ⟨m₂, hn, hm⟩, _, _⟩
  have a : At X.K X.mg s₂.heap := at_of M kb
  have e1 : cenv.scope.kind = .function := by rw [hs]; exact hk
  have e2 : cenv.kindOf "is_octet" = some .globalImplicit := by unfold Env.kindOf; rw [hs]; exact hg
  have e3 : cenv.kindOf "item" = some .local := by unfold Env.kindOf; rw [hs]; exact hi
  refine wpAny_Call_Name_kw (nm_glob a e1 hge e2 g ?_)
  refine PySem.W.callWith_K (h₀ := X.base) M.kin F.kp ?_
  show wpAny _ _ (spliced ((false, eval (.Name "item" q2) cenv) :: backTo q3 (starEach [] cenv))) _ _ s₂
  refine Calls.spliced_cons (nm_loc e1 e3 hn hm (Calls.spliced_nil ⟨a.kin, ?_⟩))
  show wpAny _ _ (call (.ref f) [u]) _ _ _
  refine wpAny_call (codeAny_mono (code_isoct F hb S bs sv si s1 s2 a mi m1 m2 (by have := hr.dp; omega) rv ty) fun r s' h => ?_)
  obtain ⟨rfl, hk'⟩ := h
  exact ⟨.inl rfl, hk'⟩
end SM
namespace SM
open PySem PySem.Spec PyProof.Rows L2 GxR
/-! ### calls by promises, what is raised told at the slots -/
section
variable {X : Cx} {CX : CXT} {k : Nat} {f : Addr} {sp : Sp} {E : L2.St → XK} {x : Str} {p pos : Pos} {e : Expr} {es : List Expr} {t : TA}
def tCallR (sp : Sp) (E : L2.St → XK) (t : TA) : TE := fun σ H Q => t σ H fun vs H1 => sp vs H1 Q (E σ)
theorem pe_callR (F : FnR X.prog X.w X.K X.mg X.base CX k f sp) (hr : Room k X.A) (hg : Gl X x) (hm : X.mg x = some (.ref f)) (hk : PySem.W.keepIn X.K (.ref f) = true) (hx : ∀ σ, PassesAt CX X σ (E σ))
    (ha : PA X (e :: es) t)
    (hdb : (x == ("__debug__" : Str)) = false := by decide) (he : starEach (e :: es) X.env = (false, eval e X.env) :: starEach es X.env := by rfl) (hpl : (backTo pos (starEach es X.env)).any (·.1) = false := by rfl) :
    PE X (.Call (.Name x p) (e :: es) [] pos) (tCallR sp E t) := by
  constructor
  intro pins s σ H Q I h
  have called : ∀ (us : List Value) (z : Shared), (∃ vs H1, Inv X pins σ H1 z ∧ Vals vs us ∧ sp vs H1 Q (E σ)) → PySem.W.Frag.In X.K X.base ∧ wpAny (model X.prog X.w) X.A (call (.ref f) us) (EP X pins σ Q) X.xe z := fun us z ⟨vs, H1, J, r, q⟩ =>
    ⟨J.ok.mod.kin, wpAny_call (codeAny_mono (F X.A X.stack z H1 us vs Q (E σ) hr J.env0 r q) fun res z' c => match res, c with
      | .error e, c => hx σ pins H1 z e z' J c
      | .ok (.ret _), c => J.after c
      | .ok .next, c => c.elim
      | .ok .brk, c => c.elim
      | .ok .cont, c => c.elim)⟩
  exact wpAny_Call_Name_kw (ld_glob I hg hm (PySem.W.callWith_K (h₀ := X.base) I.ok.mod.kin hk (wpAny_mono (ha.run pos pins s σ H _ I h) (fun us z q => ⟨let ⟨_, _, J, _⟩ := q; J.kIn, (called us z q).2⟩) fun _ _ e => e) he hpl) hdb)
/-- f() -/
theorem pe_callR0 (F : FnR X.prog X.w X.K X.mg X.base CX k f sp) (hr : Room k X.A) (hg : Gl X x) (hm : X.mg x = some (.ref f)) (hk : PySem.W.keepIn X.K (.ref f) = true) (hx : ∀ σ, PassesAt CX X σ (E σ)) (hdb : (x == ("__debug__" : Str)) = false := by decide) :
    PE X (.Call (.Name x p) [] [] pos) (tCallR sp E tNil) := by
  constructor
  intro pins s σ H Q I h
  have run : wpAny (model X.prog X.w) X.A (call (.ref f) []) (EP X pins σ Q) X.xe s := wpAny_call (codeAny_mono (F X.A X.stack s H [] [] Q (E σ) hr I.env0 .nil h) fun res z' c => match res, c with
    | .error e, c => hx σ pins H s e z' I c
    | .ok (.ret _), c => I.after c
    | .ok .next, c => c.elim
    | .ok .brk, c => c.elim
    | .ok .cont, c => c.elim)
  exact wpAny_Call_Name_kw (ld_glob I hg hm (PySem.W.callWith_K0 I.kIn hk run) hdb)
/-- what a try wishes of an exception, at all slots -/
def allWX (n : Nat) (W : WX) : XK := fun cls d H => ∀ σ : L2.St, σ.length = n → W cls d σ H
theorem passes_all {X : Cx} {W : WX} {n : Nat} (tk : Takes X W) (hn : X.N.length = n) : Passes (L2.CX X.prog X.w) X (allWX n W) := fun pins σ H s e s' I c => by
  obtain ⟨a, B, H', cls, d, e1, e2, e3, e4, e5, e6, e7, e8⟩ := c
  exact passAt tk σ pins H s e s' I ⟨a, B, H', cls, d, e1, e2, e3, e4, e5, e6, e7, e8 σ (I.len.trans hn)⟩
/-- a try that catches one class, as a named promise (so that a loop over it is found by unification) -/
@[reducible] def tTryO (K : PySem.W.Frag) (c : Value) (tb : WX → TS) (ts : Addr → Value → Option Addr → TS) (Wout : WX) : TS := fun D σ H => tb (wOnly K c ts Wout D) D σ H
theorem ps_tryO {Y : Cx} {y : Str} {c : Value} {body suite : List Stmt} {b₀ : Stmt} {np pos pos' : Pos} {tb : WX → TS} {ts : Addr → Value → Option Addr → TS} {Wout : WX}
    (h1 : Y.stack = Y.env :: Y.outer) (h2 : Y.env.frame = some Y.env.locals) (h3 : Names Y y c) (h4 : Takes Y Wout)
    (h5 : ∀ (W : WX) (pn : List (Addr × Obj)) (xe : Value → Shared → Prop), Takes (Y.tr pn xe) W → PassesOwn (model Y.prog Y.w) Y.A Y.env xe → PSs (Y.tr pn xe) body (tb W))
    (h6 : ∀ (a : Addr) (oe : Obj) (cls : Value) (d : Option Addr) (pn : List (Addr × Obj)), Zc cls d oe → (∃ vs, oe.data = .fields vs) → PSs (Y.suite a ((a, oe) :: pn)) (b₀ :: suite) (ts a cls d)) :
    PS Y (.Try body [.ExceptHandler (some (.Name y np)) none (b₀ :: suite) pos'] [] [] pos) (tTryO Y.K c tb ts Wout) := ps_try_only h1 h2 h3 h4 h5 h6
theorem pass0S : ∀ σ, PassesAt (L2.CX X.prog X.w) X σ E0 := fun σ pins H s e s' I c => passL pins σ H s e s' I c
theorem passE {E : XK} {E₁ : Value → Shared → Prop} (hs : X.stack = X.env :: X.outer) (hf : X.env.frame = some X.env.locals) (hex : X.ex = [])
    (hx : X.xe = fun e s' => wpAny (model X.prog X.w) X.A (leaving X.env e) (fun _ s'' => L2.CX X.prog X.w X.outer X.H_0 X.s_0 E e s'') E₁ s') : ∀ σ, PassesAt (L2.CX X.prog X.w) X σ E :=
  fun σ pins H s e s' I c => passes_call (takes_of hs hf hex hx) (fun _ _ _ _ h => h) pins σ H s e s' I c
/-- X(), an own exception class without an __init__ -/
theorem pmk_own0 {C : Addr} {bmB : List Value} {B newId initId : String} (F : ExcBaseFacts B newId initId bmB) (q : PySem.W.excIn X.K C bmB newId = true) (gC : X.mg x = some (.ref C)) (kC : PySem.W.keepIn X.K (.ref C) = true) (r : Raises X (.ref C)) (hg : Gl X x)
    (hdb : (x == ("__debug__" : Str)) = false := by decide) : PMk X (.Call (.Name x p) [] [] pos) (fun _ H Q => Q (.ref C) none H) := by
  intro pins s σ H Q I h
  refine wpAny_Call_Name_kw (ld_glob I hg gC ?_ hdb)
  refine PySem.W.callWith_K0 I.kIn kC ?_
  show wpAny _ _ (call (.ref C) []) _ _ _
  obtain ⟨bm, N, nm, qn, bs, hdct, sn, sub, ab, col, dd, k0, k1, k2, k3, k5, mN, hC, hN, hni, T⟩ := exc_obj I.kIn q
  refine wpAny_call_exc_subT F T hC hN hni (fun h' e hm => ?_) (by show 0 ≤ sizeLine; exact Nat.zero_le _)
  exact mk_of I hm r h (I.hok.gone hm.new)
end
/-- the body of the def st, run from its slots, keeps the promise sp -/
abbrev BodyOk (P : Program) (w : World) (K : PySem.W.Frag) (mg : Str → Option Value) (base : Heap) (_x qual : Str) (st : Stmt) (f : Addr) (N : List Str) (k : Nat) (sp : Sp) : Prop :=
  ∀ (code : Value) (Ar : Around) (out : List Env) (s0 : Shared) (H0 : Hp) (us : List V) (ret : VK) (exc : XK), Room k (Ar.deeper (envOfC qual (defScope st) s0.heap.objs.size f code)) → sp us H0 ret exc →
    ∃ body, PSs (cxOf (L2.CX P w) P w K mg base N qual (defScope st) f code Ar out s0 H0 exc) (defBody st) body ∧ body { nx := fun _ H' => ret .non H', rt := ret } (start N us) H0
/-- for a def whose code object is told -/
theorem fn_mkR {P : Program} {w : World} {K : PySem.W.Frag} {mg : Str → Option Value} {base : Heap} {x qual : Str} {st : Stmt} {f : Addr} {fd : FuncData} {N ps : List Str} {k : Nat} {sp : Sp} (F : Fun K x qual st f fd) (S : FnScope N ps (defScope st)) (b : Binds K fd ps []) (len : ∀ vs H Q E, sp vs H Q E → vs.length = ps.length)
    (hbody : BodyOk P w K mg base x qual st f N k sp) : FnR P w K mg base (L2.CX P w) (k + 1) f sp := by
  have G : FnOk P w K mg base (L2.CX P w) (k + 1) f fd ps sp := F.okX S len hbody
  refine (G.raw b .nil).imp fun vs H Q E h => ?_
  rw [List.append_nil]
  exact h
/-! ### what stands -/
/-- all that was tracked is as it was, but at ex; tables may have grown -/
structure Kp (ex : List Addr) (H H' : Hp) : Prop where
  keep : ∀ b o, b ∉ ex → H b = some o → (∀ ps, o ≠ .tbl ps) → H' b = some o
  tab : ∀ b, TabG H b → TabG H' b
  free : ∀ b, H' b = none → H b = none
theorem Kp.refl (ex : List Addr) (H : Hp) : Kp ex H H := ⟨fun _ _ _ e _ => e, fun _ e => e, fun _ e => e⟩
theorem Kp.trans {ex : List Addr} {H H1 H2 : Hp} (a : Kp ex H H1) (b : Kp ex H1 H2) : Kp ex H H2 := ⟨fun c o n e t => b.1 c o n (a.1 c o n e t) t, fun c e => b.2 c (a.2 c e), fun c e => a.3 c (b.3 c e)⟩
theorem Kp.mono {ex ex' : List Addr} {H H1 : Hp} (a : Kp ex H H1) (h : ∀ b ∈ ex, b ∈ ex') : Kp ex' H H1 := ⟨fun c o n e t => a.1 c o (fun z => n (h c z)) e t, a.2, a.3⟩
theorem Kp.of0 {ex : List Addr} {H H1 : Hp} (a : Kp [] H H1) : Kp ex H H1 := a.mono fun _ h => by cases h
theorem Kp.new {ex : List Addr} {H : Hp} {p : Addr} {o : HO} (h : H p = none) : Kp ex H (upd H p o) := by
  refine ⟨fun b u _ e _ => ?_, fun b ⟨ps, e, t⟩ => ⟨ps, ?_, t⟩, fun b e => ?_⟩
  · rw [upd_ne (ne_of_none e h)]; exact e
  · rw [upd_ne (ne_of_none e h)]; exact e
  · by_cases hb : b = p
    · rw [hb]; exact h
    · rw [upd_ne hb] at e; exact e
theorem Kp.put {ex : List Addr} {H : Hp} {p : Addr} {o u : HO} (hp : p ∈ ex) (h : H p = some u) (hu : ∀ ps, u ≠ .tbl ps) : Kp ex H (upd H p o) := by
  refine ⟨fun b v n e _ => ?_, fun b ⟨ps, e, t⟩ => ⟨ps, ?_, t⟩, fun b e => ?_⟩
  · rw [upd_ne (fun z => n (by rw [z]; exact hp))]; exact e
  · rw [upd_ne (ne_of e h (fun z => hu ps z.symm))]; exact e
  · by_cases hb : b = p
    · rw [hb, upd_same] at e; cases e
    · rw [upd_ne hb] at e; exact e
theorem Kp.grown {H H' : Hp} {P : Addr} (h : TabG H P) (t : Tabbed P H H') : Kp [] H H' := by
  obtain ⟨ps, e, _⟩ := h
  refine ⟨fun b o _ q n => ?_, fun b hb => ?_, fun b q => ?_⟩
  · rw [t.2 b (fun z => by rw [z, e] at q; cases q; exact n _ rfl)]; exact q
  · by_cases hbp : b = P
    · rw [hbp]; exact t.1
    · obtain ⟨ps', e', t'⟩ := hb
      exact ⟨ps', by rw [t.2 b hbp]; exact e', t'⟩
  · by_cases hbp : b = P
    · obtain ⟨ps', e', _⟩ := t.1
      rw [hbp, e'] at q; cases q
    · rw [t.2 b hbp] at q; exact q
/-- an object that is new to H is written -/
theorem Kp.upd {ex : List Addr} {H H1 : Hp} {p : Addr} {o : HO} (k : Kp ex H H1) (h : H p = none) : Kp ex H (upd H1 p o) := by
  refine ⟨fun b u n e t => ?_, fun b hb => ?_, fun b e => ?_⟩
  · rw [upd_ne (ne_of_none e h)]; exact k.1 b u n e t
  · obtain ⟨ps, e, t⟩ := hb
    have n := ne_of_none e h
    obtain ⟨ps', e', t'⟩ := k.2 b ⟨ps, e, t⟩
    exact ⟨ps', by rw [upd_ne n]; exact e', t'⟩
  · by_cases hb : b = p
    · rw [hb]; exact h
    · rw [upd_ne hb] at e; exact k.3 b e
section
variable {K : PySem.W.Frag} {ex : List Addr} {H H' : Hp} {a : Addr} {xs : List V}
theorem Kp.at (k : Kp ex H H') {o : HO} (h : H a = some o) (n : a ∉ ex := by simp) (t : ∀ ps, o ≠ .tbl ps := by intro _ z; cases z) : H' a = some o := k.1 a o n h t
theorem Kp.seqL (k : Kp ex H H') (h : SqL K H a xs) (n : a ∉ ex := by simp) : SqL K H' a xs := by
  exact h.imp (fun g => g.imp (fun g => k.1 a _ n g (by intro _ z; cases z)) fun ⟨o, g⟩ => ⟨o, k.1 a _ n g (by intro _ z; cases z)⟩) id
theorem Kp.seqT (k : Kp ex H H') (h : SqT K H a xs) (n : a ∉ ex := by simp) : SqT K H' a xs := by
  exact h.imp (fun g => g.imp (fun g => k.1 a _ n g (by intro _ z; cases z)) fun ⟨o, g⟩ => ⟨o, k.1 a _ n g (by intro _ z; cases z)⟩) id
end
theorem nofree_of {cl : List (Str × Addr)} {names : List (Str × NameKind)} (h : (names.all fun y => y.2 != NameKind.free) = true) : ∀ y ∈ names, y.2 = .free → ∃ c, cl.lookup y.1 = some c := fun y hy e => by
  have z := List.all_eq_true.mp h y hy
  rw [e] at z
  exact absurd z (by decide)
theorem sqT_of {K : PySem.W.Frag} {H : Hp} {a : Addr} {xs : List V} (h : H a = some (.tup xs)) : SqT K H a xs := .inl (.inl h)
theorem sqL_of {K : PySem.W.Frag} {H : Hp} {a : Addr} {xs : List V} (h : H a = some (.lst xs)) : SqL K H a xs := .inl (.inl h)
/-- a comprehension's item without a test -/
theorem yes_then {σ : L2.St} {H : Hp} {te : TE} {k : V → Hp → Prop} {B : Hp → Prop} (h : te σ H k) : tYes σ H (fun b H3 => if b = true then te σ H3 k else B H3) := by
  show (if true = true then te σ H k else B H)
  rw [if_pos rfl]
  exact h
/-- zip of two tuples -/
theorem walk_zipT {K : PySem.W.Frag} {a b : Addr} {xs ys : List V} {n : Nat} (hn : n = min xs.length ys.length) : Walk (RZ.ItzT K a b) n (fun H => SqT K H a xs ∧ SqT K H b ys) (YPair (fun i => xs[i]?) (fun i => ys[i]?)) := by
  subst hn
  have both : ∀ {i : Nat}, i < min xs.length ys.length → ∃ x y, xs[i]? = some x ∧ ys[i]? = some y := fun h => ⟨_, _, List.getElem?_eq_getElem (Nat.lt_of_lt_of_le h (Nat.min_le_left ..)), List.getElem?_eq_getElem (Nat.lt_of_lt_of_le h (Nat.min_le_right ..))⟩
  constructor
  · intro i H lt ⟨sa, sb⟩
    obtain ⟨x, y, ex, ey⟩ := both lt
    exact ⟨xs, ys, x, y, sa, sb, ex, ey⟩
  · exact fun H ⟨sa, sb⟩ => ⟨xs, ys, sa, sb, by omega⟩
  · exact fun i H v H' _ ⟨sa, sb⟩ ⟨T, x, y, e1, e2, e3, fx, fy⟩ => ⟨T, x, y, e1, e2, e3, fx xs sa, fy ys sb⟩
/-- a suite that is known to run for one class alone -/
theorem pss_when {X : Cx} {p : Prop} {body : List Stmt} {t : TS} (h : p → PSs X body t) : PSs X body (fun D σ H => p ∧ t D σ H) := ⟨fun pins s σ H D I hw => (h hw.1).run pins s σ H D I hw.2⟩
/-- isinstance of a caught error of the class at D against the class at C -/
theorem kit_own {K : PySem.W.Frag} {D C : Addr} {b : Bool} (hc : PySem.W.hasDictIn K C = true) (ht : PySem.W.typeIn K (.ref C) = some (.type "type")) (hs : PySem.W.subIn K (.ref D) (.ref C) = some b) (hr : D = C → b = true) : PySem.W.kitOne K (.ref D) (.ref C) = some b := by
  unfold PySem.W.kitOne
  by_cases e : D = C
  · subst e
    rw [hr rfl, if_pos (beq_self_eq_true _)]
  · rw [if_neg (show ¬ ((Value.ref D == Value.ref C) = true) from fun z => e (Value.ref.inj (beq_iff_eq.mp z)))]
    obtain ⟨cd, hcd, _⟩ := PySem.W.any_some hc
    have e2 : ((PySem.W.clsIn K C).isSome && PySem.W.typeIn K (.ref C) == some (.type "type")) = true := by rw [hcd, ht]; rfl
    show (if ((PySem.W.clsIn K C).isSome && PySem.W.typeIn K (.ref C) == some (.type "type")) = true then PySem.W.subIn K (.ref D) (.ref C) else none) = some b
    rw [if_pos e2]
    exact hs
/-- a tuple stands when only the list at S is written -/
theorem Kp.seqTS {K : PySem.W.Frag} {H H' : Hp} {S a : Addr} {xs ys : List V} (k : Kp [S] H H') (hS : H S = some (.lst ys)) (h : SqT K H a xs) : SqT K H' a xs := by
  by_cases e : a = S
  · subst e
    rcases h with (h | ⟨_, h⟩) | h
    · rw [hS] at h; cases h
    · rw [hS] at h; cases h
    · exact .inr h
  · exact k.seqT h (by simpa using e)
/-- what holds between two statements -/
theorem cutAt {t u : TS} {D : Ends} {σ : L2.St} {H : Hp} (C : L2.St → Hp → Prop) (h1 : ∀ N : L2.St → Hp → Prop, (∀ σ' H', C σ' H' → N σ' H') → t { D with nx := N } σ H) (h2 : ∀ σ' H', C σ' H' → u D σ' H') : tSeq t u D σ H := h1 _ h2
/-- t[lo:hi] of a tuple: a tuple of what was cut, new or not -/
theorem rSlA_of {K : PySem.W.Frag} {H : Hp} {a : Addr} {xs : List V} {lo hi : Option Int} {Q : VK} (h : SqT K H a xs) (q : ∀ H' p, Kp [] H H' → SqT K H' p (cutV xs lo hi) → Q (.ref p) H') : rSlA K (.ref a) lo hi H Q := by
  refine ⟨a, xs, rfl, h, fun e => q H a (Kp.refl _ _) ?_, fun _ p hp => q _ p (Kp.new hp) (sqT_of upd_same)⟩
  unfold cutV
  rw [e.1, e.2, List.drop_zero, Nat.sub_zero, List.take_length]
  exact h
/-- t + u: a tuple of both, new or not -/
theorem rCatA_of {K : PySem.W.Frag} {H : Hp} {a b : Addr} {xs ys : List V} {Q : VK} (h1 : SqT K H a xs) (h2 : SqT K H b ys) (hz : xs.length + ys.length ≤ sizeLine) (q : ∀ H' p, Kp [] H H' → SqT K H' p (xs ++ ys) → Q (.ref p) H') : rCatA K (.ref a) (.ref b) H Q := by
  refine ⟨a, b, xs, ys, rfl, rfl, h1, h2, hz, fun e => q H b (Kp.refl _ _) ?_, fun _ e => q H a (Kp.refl _ _) ?_, fun _ _ p hp => q _ p (Kp.new hp) (sqT_of upd_same)⟩
  · rw [e]; exact h2
  · rw [e, List.append_nil]; exact h1
/-- the table of a def's code object, from what is written of the def and of the code -/
theorem tabIn_of {K : PySem.W.Frag} {x : Str} {f c P : Addr} {oc co : Value} {od cq : Option Addr} {fd : FuncData} {sl cs : Array (Option Value)} {cv : Array Value} (n : PySem.W.nsIn K mainGlobals x = some (some (.ref f))) (l : K.lookup f = some ⟨oc, od, .func fd, sl⟩)
    (hc : fd.code = .ref c) (t : K.lookup c = some ⟨co, cq, .fields cv, cs⟩) (u : (cv[11]? : Option Value) = some (.ref P)) : PySem.W.tabIn K x = some (c, P) := by
  unfold PySem.W.tabIn
  simp only [n, l, hc, t, u]
/-- a written tuple -/
theorem sqT_k {K : PySem.W.Frag} {a : Addr} {od : Option Addr} {its : Array Value} {n : Nat} {sl : Array (Option Value)} {xs : List V} (l : K.lookup a = some ⟨.type "tuple", od, .seq its n, sl⟩) (v : Vals xs its.toList) (small : xs.length ≤ 1000) : ∀ H : Hp, SqT K H a xs := fun _ => by
  have e : xs.length = its.size := v.length.trans (by simp)
  have hz : sizeLine = 16777216 := rfl
  exact .inr ⟨_, its, n, l, rfl, rfl, by omega, v⟩
/-- FnOk of a def whose body is followed by a promise -/
theorem fn_mkO {P : Program} {w : World} {K : PySem.W.Frag} {mg : Str → Option Value} {base : Heap} {x qual : Str} {st : Stmt} {f : Addr} {fd : FuncData} {N ps : List Str} {k : Nat} {sp : Sp} (F : Fun K x qual st f fd) (S : FnScope N ps (defScope st)) (len : ∀ vs H Q E, sp vs H Q E → vs.length = ps.length)
    (hbody : BodyOk P w K mg base x qual st f N k sp) : FnOk P w K mg base (L2.CX P w) (k + 1) f fd ps sp := F.okX S len hbody
/-- a law's row: its promise, and the tables of the defs that the top made -/
theorem walkTab {l : PySem.W.OpenLaw} {q : Program} {loose : List Str} {XP : (Str → Option Value) → Heap → Prop} {YP : World → Heap → Prop} {d : DefRec} {K : Params → PySem.W.Frag} {k n : Nat} {x : Str} (most : l.most = some n) (line : n ≤ sizeLine) (plain : d.params.defaults = []) (room : Room k callerA)
    (written : ∀ (w : World) (h : Heap), YP w h → (K w.params).In h)
    (known : ∀ (w : World) (mg : Str → Option Value) (law : Addr) (h : Heap), (K w.params).In h → h.Ns mainGlobals mg → mg d.name = some (.ref law) →
      (∀ (y : Str) (c P : Addr) (e : DefRec), (recsOf q).find? (fun e => e.name == y) = some e → PySem.W.tabIn (K w.params) y = some (c, P) → PySem.W.CodeHd h c P ∧ h.get? P = some { cls := .none, data := .fields #[] }) →
      LamX.LawAtS l w (K w.params) (L2.CX l.prog w) k n x mg law h) : PySem.W.WalkO q loose XP YP l.row.toRowW d [] fun f vs => PySem.call f vs :=
  Att.attach_callB most plain fun w _ s1 mg _ law _ _ _ _ a _ ns G Y _ _ _ hmg scr items len bits gens => by
    have inK := written w _ Y
    have top := G.T
    obtain ⟨fd, tabs, sp, h1, h2, h3, binds, says, ok⟩ := known w mg law _ inK top.g hmg fun _ _ _ _ r t => PySem.W.tab_of top inK r t
    exact LamX.law_callTs inK top.g top.b top.builtins top.nolimit gens h1 h2 h3 top.bmain scr items (Nat.le_trans len line) room ok binds (fun H hH hS => says H a ns len bits hH hS) fun _ _ _ ⟨_, _, _, _, _, _, _, _, _, _, _, _, z⟩ => z
end SM
namespace SK
open PySem PySem.Spec PyProof.Rows L2 GxR SM
def topS (i : Nat) : Stmt := PySem.Challenge.pw_saltmill_k07_names_and_chains.main.body.getD i (.Pass ⟨0, 0, 0, 0⟩)
def inClass (c : Stmt) (i : Nat) : Stmt := match c with
  | .ClassDef _ _ _ body _ _ _ _ _ _ _ => body.getD i (.Pass ⟨0, 0, 0, 0⟩)
  | s => s
abbrev s_primes : Stmt := topS 4
abbrev n_primes : List Str := ["count", "found", "number"]
theorem sc_primes : FnScope n_primes ["count"] (defScope s_primes) := ⟨rfl, rfl, rfl, by decide +kernel, rfl, by decide +kernel, by decide +kernel⟩
abbrev s_square_root_fraction : Stmt := topS 6
abbrev n_square_root_fraction : List Str := ["prime"]
theorem sc_square_root_fraction : FnScope n_square_root_fraction ["prime"] (defScope s_square_root_fraction) := ⟨rfl, rfl, rfl, by decide +kernel, rfl, by decide +kernel, by decide +kernel⟩
abbrev s_start_chain : Stmt := topS 15
abbrev n_start_chain : List Str := ["name", "fractions", "prime", "fraction"]
theorem sc_start_chain : FnScope n_start_chain ["name"] (defScope s_start_chain) := ⟨rfl, rfl, rfl, by decide +kernel, rfl, by decide +kernel, by decide +kernel⟩
abbrev s_check_name : Stmt := topS 47
abbrev n_check_name : List Str := ["name"]
theorem sc_check_name : FnScope n_check_name ["name"] (defScope s_check_name) := ⟨rfl, rfl, rfl, by decide +kernel, rfl, by decide +kernel, by decide +kernel⟩
abbrev s_block_length : Stmt := topS 48
abbrev n_block_length : List Str := ["name"]
theorem sc_block_length : FnScope n_block_length ["name"] (defScope s_block_length) := ⟨rfl, rfl, rfl, by decide +kernel, rfl, by decide +kernel, by decide +kernel⟩
abbrev s_digest_size : Stmt := topS 49
abbrev n_digest_size : List Str := ["name"]
theorem sc_digest_size : FnScope n_digest_size ["name"] (defScope s_digest_size) := ⟨rfl, rfl, rfl, by decide +kernel, rfl, by decide +kernel, by decide +kernel⟩
abbrev s_first_chain : Stmt := topS 50
abbrev n_first_chain : List Str := ["name"]
theorem sc_first_chain : FnScope n_first_chain ["name"] (defScope s_first_chain) := ⟨rfl, rfl, rfl, by decide +kernel, rfl, by decide +kernel, by decide +kernel⟩
abbrev s_compress : Stmt := topS 51
abbrev n_compress : List Str := ["name", "chain", "block"]
theorem sc_compress : FnScope n_compress ["name", "chain", "block"] (defScope s_compress) := ⟨rfl, rfl, rfl, by decide +kernel, rfl, by decide +kernel, by decide +kernel⟩
abbrev s_digest : Stmt := topS 52
abbrev n_digest : List Str := ["name", "octets", "compressor", "chain", "rest"]
theorem sc_digest : FnScope n_digest ["name", "octets"] (defScope s_digest) := ⟨rfl, rfl, rfl, by decide +kernel, rfl, by decide +kernel, by decide +kernel⟩
abbrev s_Digest___init__ : Stmt := inClass (topS 53) 0
abbrev n_Digest___init__ : List Str := ["self", "name"]
theorem sc_Digest___init__ : FnScope n_Digest___init__ ["self", "name"] (defScope s_Digest___init__) := ⟨rfl, rfl, rfl, by decide +kernel, rfl, by decide +kernel, by decide +kernel⟩
abbrev s__law_draws : Stmt := topS 55
abbrev n__law_draws : List Str := ["script", "draws", "cell", "rest", "k", "mixed"]
theorem sc__law_draws : FnScope n__law_draws ["script"] (defScope s__law_draws) := ⟨rfl, rfl, rfl, by decide +kernel, rfl, by decide +kernel, by decide +kernel⟩
abbrev s__law_take : Stmt := topS 56
abbrev n__law_take : List Str := ["m", "many", "at"]
theorem sc__law_take : FnScope n__law_take ["m", "many"] (defScope s__law_take) := ⟨rfl, rfl, rfl, by decide +kernel, rfl, by decide +kernel, by decide +kernel⟩
abbrev s__law_same : Stmt := topS 58
abbrev n__law_same : List Str := ["actual", "due", "n"]
theorem sc__law_same : FnScope n__law_same ["actual", "due"] (defScope s__law_same) := ⟨rfl, rfl, rfl, by decide +kernel, rfl, by decide +kernel, by decide +kernel⟩
abbrev s__law_root : Stmt := topS 59
abbrev n__law_root : List Str := ["number", "power", "low", "high", "middle", "cube"]
theorem sc__law_root : FnScope n__law_root ["number", "power"] (defScope s__law_root) := ⟨rfl, rfl, rfl, by decide +kernel, rfl, by decide +kernel, by decide +kernel⟩
abbrev s__law_primes : Stmt := topS 60
abbrev n__law_primes : List Str := ["count", "primes_v", "number", "prime"]
theorem sc__law_primes : FnScope n__law_primes ["count"] (defScope s__law_primes) := ⟨rfl, rfl, rfl, by decide +kernel, rfl, by decide +kernel, by decide +kernel⟩
abbrev s__law_names : Stmt := topS 61
abbrev n__law_names : List Str := []
theorem sc__law_names : FnScope n__law_names [] (defScope s__law_names) := ⟨rfl, rfl, rfl, by decide +kernel, rfl, by decide +kernel, by decide +kernel⟩
abbrev s__law_block : Stmt := topS 62
abbrev n__law_block : List Str := ["name"]
theorem sc__law_block : FnScope n__law_block ["name"] (defScope s__law_block) := ⟨rfl, rfl, rfl, by decide +kernel, rfl, by decide +kernel, by decide +kernel⟩
abbrev s__law_size : Stmt := topS 63
abbrev n__law_size : List Str := ["name"]
theorem sc__law_size : FnScope n__law_size ["name"] (defScope s__law_size) := ⟨rfl, rfl, rfl, by decide +kernel, rfl, by decide +kernel, by decide +kernel⟩
abbrev s__law_chain : Stmt := topS 64
abbrev n__law_chain : List Str := ["name", "primes_v", "words", "prime", "word"]
theorem sc__law_chain : FnScope n__law_chain ["name"] (defScope s__law_chain) := ⟨rfl, rfl, rfl, by decide +kernel, rfl, by decide +kernel, by decide +kernel⟩
abbrev s__law_wrong : Stmt := topS 65
abbrev n__law_wrong : List Str := ["m", "name", "choice"]
theorem sc__law_wrong : FnScope n__law_wrong ["m"] (defScope s__law_wrong) := ⟨rfl, rfl, rfl, by decide +kernel, rfl, by decide +kernel, by decide +kernel⟩
abbrev s__law_refused : Stmt := topS 66
abbrev n__law_refused : List Str := ["name", "which", "e"]
theorem sc__law_refused : FnScope n__law_refused ["name", "which"] (defScope s__law_refused) := ⟨rfl, rfl, rfl, by decide +kernel, rfl, by decide +kernel, by decide +kernel⟩
abbrev s_law : Stmt := topS 67
abbrev n_law : List Str := ["script", "m", "name", "actual", "due", "wrong", "which"]
theorem sc_law : FnScope n_law ["script"] (defScope s_law) := ⟨rfl, rfl, rfl, by decide +kernel, rfl, by decide +kernel, by decide +kernel⟩
structure Txt (w : World) (K : PySem.W.Frag) (mg : Str → Option Value) where
  a_primes : Addr
  d_primes : FuncData
  F_primes : Fun K "primes" "primes" s_primes a_primes d_primes
  g_primes : mg "primes" = some (.ref a_primes)
  b_primes : Binds K d_primes ["count"] []
  c_primes : Addr
  P_primes : Addr
  L_primes : ∃ (oc : Value) (od : Option Addr) (kV doc pm : Value) (an : Option Addr) (ct : Value) (osl : Array (Option Value)), K.lookup a_primes = some ⟨oc, od, .func (PySem.W.fnOf "primes" "primes" (defArgs s_primes) (defBody s_primes) (defScope s_primes) .none kV doc pm an (.ref c_primes) ct), osl⟩ ∧ PySem.W.codeIn K (.ref c_primes) "primes" = true
  a_square_root_fraction : Addr
  d_square_root_fraction : FuncData
  F_square_root_fraction : Fun K "square_root_fraction" "square_root_fraction" s_square_root_fraction a_square_root_fraction d_square_root_fraction
  g_square_root_fraction : mg "square_root_fraction" = some (.ref a_square_root_fraction)
  b_square_root_fraction : Binds K d_square_root_fraction ["prime"] []
  a_start_chain : Addr
  d_start_chain : FuncData
  F_start_chain : Fun K "start_chain" "start_chain" s_start_chain a_start_chain d_start_chain
  g_start_chain : mg "start_chain" = some (.ref a_start_chain)
  b_start_chain : Binds K d_start_chain ["name"] []
  a_check_name : Addr
  d_check_name : FuncData
  F_check_name : Fun K "check_name" "check_name" s_check_name a_check_name d_check_name
  g_check_name : mg "check_name" = some (.ref a_check_name)
  b_check_name : Binds K d_check_name ["name"] []
  a_block_length : Addr
  d_block_length : FuncData
  F_block_length : Fun K "block_length" "block_length" s_block_length a_block_length d_block_length
  g_block_length : mg "block_length" = some (.ref a_block_length)
  b_block_length : Binds K d_block_length ["name"] []
  a_digest_size : Addr
  d_digest_size : FuncData
  F_digest_size : Fun K "digest_size" "digest_size" s_digest_size a_digest_size d_digest_size
  g_digest_size : mg "digest_size" = some (.ref a_digest_size)
  b_digest_size : Binds K d_digest_size ["name"] []
  a_first_chain : Addr
  d_first_chain : FuncData
  F_first_chain : Fun K "first_chain" "first_chain" s_first_chain a_first_chain d_first_chain
  g_first_chain : mg "first_chain" = some (.ref a_first_chain)
  b_first_chain : Binds K d_first_chain ["name"] []
  a_compress : Addr
  d_compress : FuncData
  F_compress : Fun K "compress" "compress" s_compress a_compress d_compress
  g_compress : mg "compress" = some (.ref a_compress)
  b_compress : Binds K d_compress ["name", "chain", "block"] []
  a_digest : Addr
  d_digest : FuncData
  F_digest : Fun K "digest" "digest" s_digest a_digest d_digest
  g_digest : mg "digest" = some (.ref a_digest)
  b_digest : Binds K d_digest ["name", "octets"] []
  a__law_draws : Addr
  d__law_draws : FuncData
  F__law_draws : Fun K "_law_draws" "_law_draws" s__law_draws a__law_draws d__law_draws
  g__law_draws : mg "_law_draws" = some (.ref a__law_draws)
  b__law_draws : Binds K d__law_draws ["script"] []
  a__law_take : Addr
  d__law_take : FuncData
  F__law_take : Fun K "_law_take" "_law_take" s__law_take a__law_take d__law_take
  g__law_take : mg "_law_take" = some (.ref a__law_take)
  b__law_take : Binds K d__law_take ["m", "many"] []
  a__law_same : Addr
  d__law_same : FuncData
  F__law_same : Fun K "_law_same" "_law_same" s__law_same a__law_same d__law_same
  g__law_same : mg "_law_same" = some (.ref a__law_same)
  b__law_same : Binds K d__law_same ["actual", "due"] []
  a__law_root : Addr
  d__law_root : FuncData
  F__law_root : Fun K "_law_root" "_law_root" s__law_root a__law_root d__law_root
  g__law_root : mg "_law_root" = some (.ref a__law_root)
  b__law_root : Binds K d__law_root ["number", "power"] []
  a__law_primes : Addr
  d__law_primes : FuncData
  F__law_primes : Fun K "_law_primes" "_law_primes" s__law_primes a__law_primes d__law_primes
  g__law_primes : mg "_law_primes" = some (.ref a__law_primes)
  b__law_primes : Binds K d__law_primes ["count"] []
  a__law_names : Addr
  d__law_names : FuncData
  F__law_names : Fun K "_law_names" "_law_names" s__law_names a__law_names d__law_names
  g__law_names : mg "_law_names" = some (.ref a__law_names)
  b__law_names : Binds K d__law_names [] []
  a__law_block : Addr
  d__law_block : FuncData
  F__law_block : Fun K "_law_block" "_law_block" s__law_block a__law_block d__law_block
  g__law_block : mg "_law_block" = some (.ref a__law_block)
  b__law_block : Binds K d__law_block ["name"] []
  a__law_size : Addr
  d__law_size : FuncData
  F__law_size : Fun K "_law_size" "_law_size" s__law_size a__law_size d__law_size
  g__law_size : mg "_law_size" = some (.ref a__law_size)
  b__law_size : Binds K d__law_size ["name"] []
  a__law_chain : Addr
  d__law_chain : FuncData
  F__law_chain : Fun K "_law_chain" "_law_chain" s__law_chain a__law_chain d__law_chain
  g__law_chain : mg "_law_chain" = some (.ref a__law_chain)
  b__law_chain : Binds K d__law_chain ["name"] []
  a__law_wrong : Addr
  d__law_wrong : FuncData
  F__law_wrong : Fun K "_law_wrong" "_law_wrong" s__law_wrong a__law_wrong d__law_wrong
  g__law_wrong : mg "_law_wrong" = some (.ref a__law_wrong)
  b__law_wrong : Binds K d__law_wrong ["m"] []
  a__law_refused : Addr
  d__law_refused : FuncData
  F__law_refused : Fun K "_law_refused" "_law_refused" s__law_refused a__law_refused d__law_refused
  g__law_refused : mg "_law_refused" = some (.ref a__law_refused)
  b__law_refused : Binds K d__law_refused ["name", "which"] []
  a_law : Addr
  d_law : FuncData
  F_law : Fun K "law" "law" s_law a_law d_law
  g_law : mg "law" = some (.ref a_law)
  b_law : Binds K d_law ["script"] []
  a_SaltmillError : Addr
  g_SaltmillError : mg "SaltmillError" = some (.ref a_SaltmillError)
  xP_SaltmillError : PySem.W.excIn K a_SaltmillError [.type "ValueError", .type "Exception", .type "BaseException", .type "object"] "ValueError.__new__" = true
  kP_SaltmillError : PySem.W.keepIn K (.ref a_SaltmillError) = true
  bP_SaltmillError : PySem.W.subIn K (.ref a_SaltmillError) (.type "BaseException") = some true
  tP_SaltmillError : PySem.W.typeIn K (.ref a_SaltmillError) = some (.type "type")
  hd_SaltmillError : PySem.W.hasDictIn K a_SaltmillError = true
  a_OctetError : Addr
  g_OctetError : mg "OctetError" = some (.ref a_OctetError)
  xP_OctetError : PySem.W.excIn K a_OctetError [.type "ValueError", .type "Exception", .type "BaseException", .type "object"] "ValueError.__new__" = true
  kP_OctetError : PySem.W.keepIn K (.ref a_OctetError) = true
  bP_OctetError : PySem.W.subIn K (.ref a_OctetError) (.type "BaseException") = some true
  tP_OctetError : PySem.W.typeIn K (.ref a_OctetError) = some (.type "type")
  hd_OctetError : PySem.W.hasDictIn K a_OctetError = true
  a_ChoiceError : Addr
  g_ChoiceError : mg "ChoiceError" = some (.ref a_ChoiceError)
  xP_ChoiceError : PySem.W.excIn K a_ChoiceError [.type "ValueError", .type "Exception", .type "BaseException", .type "object"] "ValueError.__new__" = true
  kP_ChoiceError : PySem.W.keepIn K (.ref a_ChoiceError) = true
  bP_ChoiceError : PySem.W.subIn K (.ref a_ChoiceError) (.type "BaseException") = some true
  tP_ChoiceError : PySem.W.typeIn K (.ref a_ChoiceError) = some (.type "type")
  hd_ChoiceError : PySem.W.hasDictIn K a_ChoiceError = true
  a_LengthError : Addr
  g_LengthError : mg "LengthError" = some (.ref a_LengthError)
  xP_LengthError : PySem.W.excIn K a_LengthError [.type "ValueError", .type "Exception", .type "BaseException", .type "object"] "ValueError.__new__" = true
  kP_LengthError : PySem.W.keepIn K (.ref a_LengthError) = true
  bP_LengthError : PySem.W.subIn K (.ref a_LengthError) (.type "BaseException") = some true
  tP_LengthError : PySem.W.typeIn K (.ref a_LengthError) = some (.type "type")
  hd_LengthError : PySem.W.hasDictIn K a_LengthError = true
  sub_ChoiceError_SaltmillError : PySem.W.subIn K (.ref a_ChoiceError) (.ref a_SaltmillError) = some true
  sub_ChoiceError_ChoiceError : PySem.W.subIn K (.ref a_ChoiceError) (.ref a_ChoiceError) = some true
  sub_ChoiceError_LengthError : PySem.W.subIn K (.ref a_ChoiceError) (.ref a_LengthError) = some false
  X_ChoiceError : ExcC K a_ChoiceError
  t_LOW_64 : Tok
  g_LOW_64 : mg "LOW_64" = some (.int 18446744073709551615 t_LOW_64)
  a_NAMES : Addr
  g_NAMES : mg "NAMES" = some (.ref a_NAMES)
  s_NAMES : ∀ H : Hp, SqT K H a_NAMES [.str "sha1", .str "sha224", .str "sha256", .str "sha384", .str "sha512"]
  a_BLOCK_LENGTHS : Addr
  g_BLOCK_LENGTHS : mg "BLOCK_LENGTHS" = some (.ref a_BLOCK_LENGTHS)
  e_BLOCK_LENGTHS_sha1 : KDct K w a_BLOCK_LENGTHS "sha1" (.int 64)
  e_BLOCK_LENGTHS_sha224 : KDct K w a_BLOCK_LENGTHS "sha224" (.int 64)
  e_BLOCK_LENGTHS_sha256 : KDct K w a_BLOCK_LENGTHS "sha256" (.int 64)
  e_BLOCK_LENGTHS_sha384 : KDct K w a_BLOCK_LENGTHS "sha384" (.int 128)
  e_BLOCK_LENGTHS_sha512 : KDct K w a_BLOCK_LENGTHS "sha512" (.int 128)
  a_SIZES : Addr
  g_SIZES : mg "SIZES" = some (.ref a_SIZES)
  e_SIZES_sha1 : KDct K w a_SIZES "sha1" (.int 20)
  e_SIZES_sha224 : KDct K w a_SIZES "sha224" (.int 28)
  e_SIZES_sha256 : KDct K w a_SIZES "sha256" (.int 32)
  e_SIZES_sha384 : KDct K w a_SIZES "sha384" (.int 48)
  e_SIZES_sha512 : KDct K w a_SIZES "sha512" (.int 64)
  a_SHA1_CHAIN : Addr
  g_SHA1_CHAIN : mg "SHA1_CHAIN" = some (.ref a_SHA1_CHAIN)
  s_SHA1_CHAIN : ∀ H : Hp, SqT K H a_SHA1_CHAIN [.int 1732584193, .int 4023233417, .int 2562383102, .int 271733878, .int 3285377520]
  t_LOW_32_families : Tok
  g_LOW_32_families : mg "LOW_32_families" = some (.int 4294967295 t_LOW_32_families)
  m_abs : mg "abs" = none
  m_all : mg "all" = none
  m_bool : mg "bool" = none
  m_int : mg "int" = none
  m_isinstance : mg "isinstance" = none
  m_len : mg "len" = none
  m_range : mg "range" = none
  m_tuple : mg "tuple" = none
  m_ValueError : mg "ValueError" = none
  kit_V : PySem.W.kitOne K (.ref a_ChoiceError) (.type "ValueError") = some true
  g_isqrt : mg "isqrt" = some (.builtin "math.isqrt")
  a_Digest : Addr
  g_Digest : mg "Digest" = some (.ref a_Digest)
  a_Digest___init__ : Addr
  M_Digest : Mk K a_Digest a_Digest___init__
  d_Digest___init__ : FuncData
  F_Digest___init__ : Fun K "__init__" "Digest.__init__" s_Digest___init__ a_Digest___init__ d_Digest___init__
  b_Digest___init__ : Binds K d_Digest___init__ ["self", "name"] []
end SK
namespace SK
open PySem PySem.Spec PyProof.Rows L2 GxR SM
/-- a part of a list -/
def cutL {α : Type} (xs : List α) (lo hi : Option Int) : List α := (xs.drop (HT.sIx xs.length 0 lo)).take (HT.sIx xs.length xs.length hi - HT.sIx xs.length 0 lo)
theorem cutV_map {α : Type} (f : α → V) (xs : List α) (lo hi : Option Int) : cutV (xs.map f) lo hi = (cutL xs lo hi).map f := by
  unfold cutV cutL
  rw [List.length_map, ← List.map_drop, ← List.map_take]
theorem cutL_le {α : Type} (xs : List α) (lo hi : Option Int) : (cutL xs lo hi).length ≤ xs.length := by
  unfold cutL
  rw [List.length_take, List.length_drop]
  omega
theorem ints_get {ns : List Int} {i : Nat} (h : i < ns.length) : (ns.map V.int)[i]? = some (.int (ns[i]'h)) := by
  rw [List.getElem?_map, List.getElem?_eq_getElem h]
  rfl
abbrev kS (x : Str) : Key := .inr x
section
variable {P : Program} {w : World} {K : PySem.W.Frag} {mg : Str → Option Value} {base : Heap}
def spDraws (K : PySem.W.Frag) : Sp := fun vs H Q _ => ∃ (a : Addr) (ns : List Int), vs = [.ref a] ∧ SqL K H a (ns.map V.int) ∧ ns.length ≤ 63 ∧ ∀ (H' : Hp) (D : Addr) (ds : List Int), Kp [] H H' → H D = none → H' D = some (.lst (ds.map V.int)) → Q (.ref D) H'
theorem ok_law_draws (T : Txt w K mg) : FnR P w K mg base (L2.CX P w) 1 T.a__law_draws (spDraws K) := by
  refine fn_mkR T.F__law_draws sc__law_draws T.b__law_draws (fun vs H Q E h => ?_) fun cdv A outer s H vs Q E hr h => ?_
  · obtain ⟨a, ns, rfl, _⟩ := h
    rfl
  · obtain ⟨a, ns, rfl, hs, hz, q⟩ := h
    refine ⟨_, (pss_cons (ps_set (i := 1) sc__law_draws.nd rfl (Or.inl rfl) (pe_lst pa_nil))
      (pss_cons (ps_for (passes_of rfl) rfl (pi_list (pe_slice sl_list (pv 0) po_none (po_some pe_int))) (pg_name (i := 2) sc__law_draws.nd rfl (Or.inl rfl))
      (pss_cons (ps_set (i := 3) sc__law_draws.nd rfl (Or.inl rfl) (pe_callB call_abs (by rfl) T.m_abs (by decide +kernel) (pa_cons (pv 2) pa_nil)))
      (pss_one (ps_if (pt_cmpR op_ge (pv 3) pe_int (nomark _))
      (pss_one (ps_for (passes_of rfl) rfl (pi_range1 (by rfl) T.m_range (pa_cons pe_int pa_nil)) (pg_name (i := 4) sc__law_draws.nd rfl (Or.inl rfl))
      (pss_one (ps_if (pt_cmpR op_gt (pv 3) pe_int (nomark _))
      (pss_cons (ps_expr (pe_bm PySem.F.plainAttrs_list PySem.F.slot_list_append PySem.F.type_list_append mt_append (pv 1) (pa_cons (pe_op op_mod (pe_callTy call_int1 (by rfl) T.m_int (by decide +kernel) (pa_cons (pv 3) pa_nil)) pe_int) pa_nil)))
      (pss_one (ps_set (i := 3) sc__law_draws.nd rfl (Or.inl rfl) (pe_op op_fdiv (pv 3) pe_int))))
      pss_nil))))
      (pss_cons (ps_set (i := 5) sc__law_draws.nd rfl (Or.inl rfl) (pe_op op_mod (pe_callTy call_int1 (by rfl) T.m_int (by decide +kernel) (pa_cons (pe_op op_add (pe_op op_mul (pv 3) pe_int) pe_int) pa_nil)) pe_int))
      (pss_one (ps_for (passes_of rfl) rfl (pi_range1 (by rfl) T.m_range (pa_cons pe_int pa_nil)) (pg_name (i := 4) sc__law_draws.nd rfl (Or.inl rfl))
      (pss_cons (ps_set (i := 5) sc__law_draws.nd rfl (Or.inl rfl) (pe_op op_mod (pe_callTy call_int1 (by rfl) T.m_int (by decide +kernel) (pa_cons (pe_op op_add (pe_op op_add (pe_op op_mul (pv 5) pe_int) (pe_op op_mul pe_int (pv 4))) pe_int) pa_nil)) pe_int))
      (pss_one (ps_expr (pe_bm PySem.F.plainAttrs_list PySem.F.slot_list_append PySem.F.type_list_append mt_append (pv 1) (pa_cons (pe_op op_fdiv (pv 5) pe_int) pa_nil))))))))))))
      (pss_one (ps_ret (pv 1))))), ?_⟩
    refine ⟨Nat.zero_le _, fun D hD => ?_⟩
    refine ⟨_, rfl, 63, rfl, a, _, rfl, (Kp.new (ex := []) hD).seqL hs, fun p hp => ?_⟩
    have ne : D ≠ p := ne_of_none upd_same hp
    have hl := cutL_le ns none (some 63)
    refine ⟨p, rfl, ⟨_, sqL_of upd_same⟩, ?_⟩
    rw [cutV_map]
    generalize cutL ns none (some 63) = L at hl
    -- one more number at D
    have grow : ∀ (H' : Hp) (ds : List Int) (n : Int), Kp [] H H' → SqL K H' p (L.map V.int) → H' D = some (.lst (ds.map V.int)) → Kp [] H (upd H' D (.lst (ds.map V.int ++ [V.int n]))) ∧ SqL K (upd H' D (.lst (ds.map V.int ++ [V.int n]))) p (L.map V.int) ∧ upd H' D (.lst (ds.map V.int ++ [V.int n])) D = some (.lst ((ds ++ [n]).map V.int)) := fun H' ds n k sp e =>
      ⟨k.upd hD, (Kp.put (ex := [D]) (o := .lst (ds.map V.int ++ [V.int n])) (by simp) e (by intro _ z; cases z)).seqL sp (by simpa using ne.symm), by rw [upd_same, List.map_append]; rfl⟩
    have hz : sizeLine = 16777216 := rfl
    refine for_it (walk_list (K := K) (a := p) (xs := L.map V.int)) (fun i σ H' => (∃ o2 o3 o4 o5 : Option V, σ = [some (.ref a), some (.ref D), o2, o3, o4, o5]) ∧ Kp [] H H' ∧ SqL K H' p (L.map V.int) ∧ ∃ ds : List Int, H' D = some (.lst (ds.map V.int)) ∧ ds.length ≤ 60 * i)
      ⟨⟨none, none, none, none, rfl⟩, (Kp.new hD).trans (Kp.new hp), sqL_of upd_same, [], by rw [upd_ne ne]; exact upd_same, Nat.zero_le _⟩ (fun i σ H' _ hv => hv.2.2.1) ?_ ?_
    · rintro i x σ H0 H1 hi ⟨⟨o2, o3, o4, o5, rfl⟩, k1, sp, ds, e, hd⟩ ⟨rfl, hx⟩
      rw [List.length_map] at hi
      rw [ints_get hi] at hx
      cases hx
      have hi63 : i < 63 := by omega
      refine cutAt (fun σ H' => (∃ r : Int, σ = [some (.ref a), some (.ref D), some (.int L[i]), some (.int r), o4, o5]) ∧ H1 = H') (fun N hN => ?_) ?_
      · exact ⟨_, rfl, _, rfl, hN _ _ ⟨⟨_, rfl⟩, rfl⟩⟩
      rintro _ _ ⟨⟨r, rfl⟩, rfl⟩
      refine ⟨_, rfl, _, _, rfl, rfl, _, rfl, ite2 (fun _ => ?_) (fun _ => ?_)⟩
      · refine ⟨60, rfl, by decide, by decide, ?_⟩
        refine for_it walk_range (fun j σ H' => (∃ (r : Int) (o4 : Option V), σ = [some (.ref a), some (.ref D), some (.int L[i]), some (.int r), o4, o5]) ∧ Kp [] H H' ∧ SqL K H' p (L.map V.int) ∧ ∃ ds : List Int, H' D = some (.lst (ds.map V.int)) ∧ ds.length ≤ 60 * i + j) ⟨⟨r, o4, rfl⟩, k1, sp, ds, e, hd⟩ (fun _ _ _ _ _ => True.intro) ?_ ?_
        · rintro j x σ H0 H3 hj ⟨⟨r, o4, rfl⟩, k3, sp3, ds3, e3, hd3⟩ ⟨rfl, rfl⟩
          have hj60 : j < 60 := hj
          refine ⟨_, rfl, _, _, rfl, rfl, _, rfl, ite2 (fun _ => ?_) (fun _ => ⟨⟨_, _, rfl⟩, k3, sp3, ds3, e3, by omega⟩)⟩
          refine ⟨.ref D, rfl, .inl ⟨rfl, _, .inl (.inl e3)⟩, _, rfl, .inl ⟨_, rfl, _, _, rfl, rfl, (by show (0 : Int) < 1009; decide), D, _, _, rfl, rfl, e3, by rw [List.length_map, hz]; omega, ?_⟩⟩
          obtain ⟨g1, g2, g3⟩ := grow H3 ds3 (r % 1009) k3 sp3 e3
          exact ⟨_, rfl, _, _, rfl, rfl, ⟨by decide, by decide⟩, ⟨_, _, rfl⟩, g1, g2, _, g3, by rw [List.length_append, List.length_singleton]; omega⟩
        · rintro σ H3 ⟨⟨r, o4, rfl⟩, k3, sp3, ds3, e3, hd3⟩
          exact ⟨⟨_, _, _, _, rfl⟩, k3, sp3, ds3, e3, by simp at hd3; omega⟩
      · refine cutAt (fun σ H' => (∃ r2 : Int, σ = [some (.ref a), some (.ref D), some (.int L[i]), some (.int r), o4, some (.int r2)]) ∧ H1 = H') (fun N hN => ?_) ?_
        · exact ⟨_, rfl, _, _, rfl, rfl, .inr ⟨by decide, by decide⟩, _, _, rfl, rfl, .inl ⟨_, rfl, _, _, rfl, rfl, (by show (0 : Int) < 2147483647; decide), hN _ _ ⟨⟨_, rfl⟩, rfl⟩⟩⟩
        rintro _ _ ⟨⟨r2, rfl⟩, rfl⟩
        refine ⟨7, rfl, by decide, by decide, ?_⟩
        refine for_it walk_range (fun j σ H' => (∃ (r2 : Int) (o4 : Option V), σ = [some (.ref a), some (.ref D), some (.int L[i]), some (.int r), o4, some (.int r2)]) ∧ Kp [] H H' ∧ SqL K H' p (L.map V.int) ∧ ∃ ds : List Int, H' D = some (.lst (ds.map V.int)) ∧ ds.length ≤ 60 * i + j) ⟨⟨r2, o4, rfl⟩, k1, sp, ds, e, hd⟩ (fun _ _ _ _ _ => True.intro) ?_ ?_
        · rintro j x σ H0 H3 hj ⟨⟨r2, o4, rfl⟩, k3, sp3, ds3, e3, hd3⟩ ⟨rfl, rfl⟩
          have hj7 : j < 7 := hj
          refine cutAt (fun σ H' => (∃ r3 : Int, σ = [some (.ref a), some (.ref D), some (.int L[i]), some (.int r), some (.int (0 + (j : Nat))), some (.int r3)]) ∧ H3 = H') (fun N hN => ?_) ?_
          · exact ⟨_, rfl, _, _, rfl, rfl, .inr ⟨by decide, by decide⟩, _, rfl, _, _, rfl, rfl, .inl ⟨by decide, by decide⟩, _, _, rfl, rfl, _, _, rfl, rfl, .inl ⟨_, rfl, _, _, rfl, rfl, (by show (0 : Int) < 2147483629; decide), hN _ _ ⟨⟨_, rfl⟩, rfl⟩⟩⟩
          rintro _ _ ⟨⟨r3, rfl⟩, rfl⟩
          refine ⟨.ref D, rfl, .inl ⟨rfl, _, .inl (.inl e3)⟩, _, rfl, _, _, rfl, rfl, ⟨by decide, by decide⟩, D, _, _, rfl, rfl, e3, by rw [List.length_map, hz]; omega, ?_⟩
          obtain ⟨g1, g2, g3⟩ := grow H3 ds3 (r3 / 1009) k3 sp3 e3
          exact ⟨⟨_, _, rfl⟩, g1, g2, _, g3, by rw [List.length_append, List.length_singleton]; omega⟩
        · rintro σ H3 ⟨⟨r2, o4, rfl⟩, k3, sp3, ds3, e3, hd3⟩
          exact ⟨⟨_, _, _, _, rfl⟩, k3, sp3, ds3, e3, by simp at hd3; omega⟩
    · rintro σ H1 ⟨⟨o2, o3, o4, o5, rfl⟩, k1, sp, ds, e, hd⟩
      exact ⟨_, rfl, q H1 D ds k1 hD e⟩
end
end SK
namespace SK
open PySem PySem.Spec PyProof.Rows L2 GxR SM
/-- the law's state: the draws at D, the place of the next one -/
def mKv (D : Addr) (n : Int) : List (Key × V) := [(kS "draws", .ref D), (kS "at", .int n)]
theorem k_ne : ¬ ("draws" : Str) = "at" := by decide +kernel
theorem m_draws (D : Addr) (n : Int) : valV (mKv D n) (kS "draws") = some (.ref D) := by simp [valV, mKv]
theorem m_at (D : Addr) (n : Int) : valV (mKv D n) (kS "at") = some (.int n) := by simp [valV, mKv, List.find?_cons, k_ne]
theorem m_put (D : Addr) (n m : Int) : putK (mKv D n) (kS "at") (.int m) = mKv D m := by simp [putK, mKv, k_ne]
def Dms (H : Hp) (M D : Addr) : Prop := ∃ (n : Int) (ds : List Int), H M = some (.dK (mKv D n)) ∧ H D = some (.lst (ds.map V.int)) ∧ 0 ≤ n
theorem Dms.ne {H : Hp} {M D : Addr} (h : Dms H M D) : D ≠ M := by
  obtain ⟨n, ds, e1, e2, _⟩ := h
  intro z
  rw [z, e1] at e2
  cases e2
theorem Dms.kp {H H' : Hp} {M D : Addr} (k : Kp [] H H') (h : Dms H M D) : Dms H' M D := by
  obtain ⟨n, ds, e1, e2, r⟩ := h
  exact ⟨n, ds, k.at e1, k.at e2, r⟩
theorem Dms.get {H : Hp} {M D : Addr} {n : Int} (e : H M = some (.dK (mKv D n))) : DGet H M (.str "at") (some (.int n)) ∧ DGet H M (.str "draws") (some (.ref D)) :=
  ⟨m_at D n ▸ DGet.k (k := kS "at") e, m_draws D n ▸ DGet.k (k := kS "draws") e⟩
section
variable {P : Program} {w : World} {K : PySem.W.Frag} {mg : Str → Option Value} {base : Heap}
def spTake (K : PySem.W.Frag) : Sp := fun vs H Q _ => ∃ (M D : Addr) (m : Int), vs = [.ref M, .int m] ∧ 0 < m ∧ Dms H M D ∧ ∀ (H' : Hp) (v : Int), 0 ≤ v → v < m → Kp [M] H H' → Dms H' M D → Q (.int v) H'
theorem ok_law_take (T : Txt w K mg) : FnR P w K mg base (L2.CX P w) 1 T.a__law_take (spTake K) := by
  refine fn_mkR T.F__law_take sc__law_take T.b__law_take (fun vs H Q E h => ?_) fun cdv A outer s H vs Q E hr h => ?_
  · obtain ⟨M, D, m, rfl, _⟩ := h
    rfl
  · obtain ⟨M, D, m, rfl, hm, hd, q⟩ := h
    have hne := hd.ne
    obtain ⟨n, ds, e1, e2, h0⟩ := hd
    obtain ⟨gA, gD⟩ := Dms.get e1
    refine ⟨_, (pss_cons (ps_set (i := 2) sc__law_take.nd rfl (Or.inl rfl) (pe_dget (hu_of hr) (pv 0) pe_str (fun _ _ => rfl)))
      (pss_cons (ps_if (pt_cmpR op_ge (pv 2) (pe_callB call_len_seq (by rfl) T.m_len (by decide +kernel) (pa_cons (pe_dget (hu_of hr) (pv 0) pe_str (fun _ _ => rfl)) pa_nil)) (nomark _))
      (pss_one (ps_ret pe_int))
      pss_nil)
      (pss_cons (ps_asg (pe_op op_add (pv 2) pe_int) (pg_sub (pv 0) pe_str (set_dict (hu_of hr))))
      (pss_one (ps_ret (pe_op op_mod (pe_callTy call_int1 (by rfl) T.m_int (by decide +kernel) (pa_cons (pe_ix ix_list (pe_dget (hu_of hr) (pv 0) pe_str (fun _ _ => rfl)) (pv 2) (fun _ _ => rfl)) pa_nil)) (pv 1))))))), ?_⟩
    refine ⟨_, rfl, M, _, rfl, gA, ?_⟩
    refine ⟨_, rfl, .ref M, rfl, M, _, rfl, gD, D, _, rfl, .inl (sqL_of e2), _, _, rfl, rfl, _, rfl, ite2 (fun _ => ?_) (fun c => ?_)⟩
    · exact q H 0 (by omega) hm (Kp.refl _ _) ⟨n, ds, e1, e2, h0⟩
    · have lt : n < ds.length := by
        rw [List.length_map] at c
        have := of_decide_eq_false (Bool.eq_false_iff.mpr c)
        omega
      refine ⟨_, rfl, _, _, rfl, rfl, .ref M, rfl, M, _, rfl, DPut.k (k := kS "at") e1 (by show 2 < sizeLine; decide), ?_⟩
      have e3 : upd H M (.dK (putK (mKv D n) (kS "at") (.int (n + 1)))) D = some (.lst (ds.map V.int)) := by rw [upd_ne hne]; exact e2
      have k1 : Kp [M] H (upd H M (.dK (putK (mKv D n) (kS "at") (.int (n + 1))))) := Kp.put (by simp) e1 (by intro _ z; cases z)
      have e4 : upd H M (.dK (putK (mKv D n) (kS "at") (.int (n + 1)))) M = some (.dK (mKv D (n + 1))) := by rw [upd_same, m_put]
      obtain ⟨gA2, gD2⟩ := Dms.get e4
      obtain ⟨i, rfl⟩ := Int.eq_ofNat_of_zero_le h0
      have hi : i < ds.length := by omega
      refine ⟨.ref M, rfl, M, _, rfl, gD2, _, rfl, D, _, _, _, rfl, rfl, sqL_of e3, atI_nat (ints_get hi), .inl ⟨_, rfl, _, rfl, _, _, rfl, rfl, hm, ?_⟩⟩
      exact q _ _ (Int.emod_nonneg _ (by omega)) (Int.emod_lt_of_pos _ hm) k1 ⟨_, ds, e4, e3, by omega⟩
end
end SK
namespace SK
open PySem PySem.Spec PyProof.Rows L2 GxR SM
abbrev nm5 : List Str := ["sha1", "sha224", "sha256", "sha384", "sha512"]
theorem nm5_cases {x : Str} (h : x ∈ nm5) : x = "sha1" ∨ x = "sha224" ∨ x = "sha256" ∨ x = "sha384" ∨ x = "sha512" := by simpa [nm5] using h
theorem in_names (x : Str) (l : List Str) : inV (.str x) (l.map V.str) = decide (x ∈ l) := by
  unfold inV
  induction l with
  | nil => rfl
  | cons y l ih =>
    rw [List.map_cons, List.any_cons, ih]
    by_cases e : x = y
    · subst e; simp [eqV]
    · have e2 : ¬ y = x := fun z => e z.symm
      simp [eqV, e, e2]
theorem flat_strs (l : List Str) : (l.map V.str).all flatV = true := by simp [flatV]
section
variable {P : Program} {w : World} {K : PySem.W.Frag} {mg : Str → Option Value} {base : Heap}
/-- a def of a digest's name: R where it is one, else ChoiceError -/
def spNamed (aC : Addr) (R : Str → Hp → VK → Prop) : Sp := fun vs H Q E => ∃ x, vs = [.str x] ∧ (x ∈ nm5 → R x H Q) ∧ (x ∉ nm5 → ∀ H', Kp [] H H' → E (.ref aC) none H')
def rNon : Str → Hp → VK → Prop := fun _ H Q => ∀ H', Kp [] H H' → Q .non H'
def rNum (f : Str → Int) : Str → Hp → VK → Prop := fun x H Q => ∀ H', Kp [] H H' → Q (.int (f x)) H'
theorem spNamed_len {aC : Addr} {R : Str → Hp → VK → Prop} (vs : List V) (H : Hp) (Q : VK) (E : XK) (h : spNamed aC R vs H Q E) : vs.length = 1 := by
  obtain ⟨x, rfl, _⟩ := h
  rfl
theorem ok_check_name (T : Txt w K mg) : FnR P w K mg base (L2.CX P w) 1 T.a_check_name (spNamed T.a_ChoiceError rNon) := by
  refine fn_mkR T.F_check_name sc_check_name T.b_check_name spNamed_len fun cdv A outer s H vs Q E hr h => ?_
  obtain ⟨x, rfl, q1, q2⟩ := h
  refine ⟨_, (pss_one (ps_if (pt_cmpR op_notIn_seq (pv 0) (pe_glob (v := .ref T.a_NAMES) rfl T.g_NAMES rfl) (by rfl))
      (pss_one (ps_raise rfl (takes_of rfl rfl rfl rfl) (SM.pmk_own0 PySem.F.excBase_ValueError T.xP_ChoiceError T.g_ChoiceError T.kP_ChoiceError (raises_own T.bP_ChoiceError T.tP_ChoiceError) (by exact rfl))))
      pss_nil)), ?_⟩
  refine ⟨_, rfl, T.a_NAMES, nm5.map V.str, rfl, .inr (T.s_NAMES H), rfl, flat_strs _, ?_⟩
  rw [in_names]
  refine ⟨_, rfl, ite2 (fun c => ?_) (fun c => ?_)⟩
  · exact q2 (fun y => by rw [decide_eq_true y] at c; cases c) H (Kp.refl _ _)
  · exact q1 (Classical.byContradiction fun y => c (by rw [decide_eq_false y]; rfl)) H (Kp.refl _ _)
def blLen (x : Str) : Int := if x = "sha384" ∨ x = "sha512" then 128 else 64
def dgLen (x : Str) : Int := if x = "sha1" then 20 else if x = "sha224" then 28 else if x = "sha256" then 32 else if x = "sha384" then 48 else 64
theorem bl_at (T : Txt w K mg) {x : Str} (h : x ∈ nm5) : KDct K w T.a_BLOCK_LENGTHS x (.int (blLen x)) := by
  rcases nm5_cases h with rfl | rfl | rfl | rfl | rfl
  · exact T.e_BLOCK_LENGTHS_sha1
  · exact T.e_BLOCK_LENGTHS_sha224
  · exact T.e_BLOCK_LENGTHS_sha256
  · exact T.e_BLOCK_LENGTHS_sha384
  · exact T.e_BLOCK_LENGTHS_sha512
theorem sz_at (T : Txt w K mg) {x : Str} (h : x ∈ nm5) : KDct K w T.a_SIZES x (.int (dgLen x)) := by
  rcases nm5_cases h with rfl | rfl | rfl | rfl | rfl
  · exact T.e_SIZES_sha1
  · exact T.e_SIZES_sha224
  · exact T.e_SIZES_sha256
  · exact T.e_SIZES_sha384
  · exact T.e_SIZES_sha512
theorem ok_block_length (T : Txt w K mg) (G_check_name : FnR P w K mg base (L2.CX P w) 1 T.a_check_name (spNamed T.a_ChoiceError rNon)) : FnR P w K mg base (L2.CX P w) 2 T.a_block_length (spNamed T.a_ChoiceError (rNum blLen)) := by
  refine fn_mkR T.F_block_length sc_block_length T.b_block_length spNamed_len fun cdv A outer s H vs Q E hr h => ?_
  obtain ⟨x, rfl, q1, q2⟩ := h
  refine ⟨_, (pss_cons (ps_expr (SM.pe_callR G_check_name (hr.mono (by decide)) (by rfl) T.g_check_name T.F_check_name.kp (SM.passE rfl rfl rfl rfl) (pa_cons (pv 0) pa_nil)))
      (pss_one (ps_ret (pe_ix ix_kdict (pe_glob (v := .ref T.a_BLOCK_LENGTHS) rfl T.g_BLOCK_LENGTHS rfl) (pv 0) (fun _ _ => rfl))))), ?_⟩
  refine ⟨_, rfl, x, rfl, fun hx H' k => ?_, q2⟩
  exact ⟨_, rfl, _, _, _, rfl, rfl, bl_at T hx, q1 hx H' k⟩
theorem ok_digest_size (T : Txt w K mg) (G_check_name : FnR P w K mg base (L2.CX P w) 1 T.a_check_name (spNamed T.a_ChoiceError rNon)) : FnR P w K mg base (L2.CX P w) 2 T.a_digest_size (spNamed T.a_ChoiceError (rNum dgLen)) := by
  refine fn_mkR T.F_digest_size sc_digest_size T.b_digest_size spNamed_len fun cdv A outer s H vs Q E hr h => ?_
  obtain ⟨x, rfl, q1, q2⟩ := h
  refine ⟨_, (pss_cons (ps_expr (SM.pe_callR G_check_name (hr.mono (by decide)) (by rfl) T.g_check_name T.F_check_name.kp (SM.passE rfl rfl rfl rfl) (pa_cons (pv 0) pa_nil)))
      (pss_one (ps_ret (pe_ix ix_kdict (pe_glob (v := .ref T.a_SIZES) rfl T.g_SIZES rfl) (pv 0) (fun _ _ => rfl))))), ?_⟩
  refine ⟨_, rfl, x, rfl, fun hx H' k => ?_, q2⟩
  exact ⟨_, rfl, _, _, _, rfl, rfl, sz_at T hx, q1 hx H' k⟩
/-- defs that refuse a wrong name, whatever else they are given -/
def spWrong (n : Nat) (i : Nat) (aC : Addr) : Sp := fun vs H _ E => vs.length = n ∧ ∃ x : Str, vs[i]? = some (.str x) ∧ x ∉ nm5 ∧ ∀ H', Kp [] H H' → E (.ref aC) none H'
theorem ok_compress (T : Txt w K mg) (G_check_name : FnR P w K mg base (L2.CX P w) 1 T.a_check_name (spNamed T.a_ChoiceError rNon)) : FnR P w K mg base (L2.CX P w) 2 T.a_compress (spWrong 3 0 T.a_ChoiceError) := by
  refine fn_mkR T.F_compress sc_compress T.b_compress (fun _ _ _ _ h => h.1) fun cdv A outer s H vs Q E hr h => ?_
  obtain ⟨hl, x, hx, nx, q⟩ := h
  obtain ⟨v0, v1, v2, rfl⟩ : ∃ a b c, vs = [a, b, c] := match vs, hl with | [a, b, c], _ => ⟨a, b, c, rfl⟩
  cases hx
  refine ⟨_, (pss_cons (ps_expr (SM.pe_callR G_check_name (hr.mono (by decide)) (by rfl) T.g_check_name T.F_check_name.kp (SM.passE rfl rfl rfl rfl) (pa_cons (pv 0) pa_nil)))
      (pss_cons ps_never
      (pss_cons ps_never
      (pss_one ps_never)))), ?_⟩
  exact ⟨_, rfl, x, rfl, fun y => absurd y nx, fun _ => q⟩
theorem ok_digest (T : Txt w K mg) (G_check_name : FnR P w K mg base (L2.CX P w) 1 T.a_check_name (spNamed T.a_ChoiceError rNon)) : FnR P w K mg base (L2.CX P w) 2 T.a_digest (spWrong 2 0 T.a_ChoiceError) := by
  refine fn_mkR T.F_digest sc_digest T.b_digest (fun _ _ _ _ h => h.1) fun cdv A outer s H vs Q E hr h => ?_
  obtain ⟨hl, x, hx, nx, q⟩ := h
  obtain ⟨v0, v1, rfl⟩ : ∃ a b, vs = [a, b] := match vs, hl with | [a, b], _ => ⟨a, b, rfl⟩
  cases hx
  refine ⟨_, (pss_cons (ps_expr (SM.pe_callR G_check_name (hr.mono (by decide)) (by rfl) T.g_check_name T.F_check_name.kp (SM.passE rfl rfl rfl rfl) (pa_cons (pv 0) pa_nil)))
      (pss_cons ps_never
      (pss_one ps_never))), ?_⟩
  exact ⟨_, rfl, x, rfl, fun y => absurd y nx, fun _ => q⟩
theorem ok_Digest (T : Txt w K mg) (G_check_name : FnR P w K mg base (L2.CX P w) 1 T.a_check_name (spNamed T.a_ChoiceError rNon)) : FnOk P w K mg base (L2.CX P w) 2 T.a_Digest___init__ T.d_Digest___init__ ["self", "name"] (spWrong 2 1 T.a_ChoiceError) := by
  refine fn_mkO T.F_Digest___init__ sc_Digest___init__ (fun _ _ _ _ h => h.1) fun cdv A outer s H vs Q E hr h => ?_
  obtain ⟨hl, x, hx, nx, q⟩ := h
  obtain ⟨v0, v1, rfl⟩ : ∃ a b, vs = [a, b] := match vs, hl with | [a, b], _ => ⟨a, b, rfl⟩
  cases hx
  refine ⟨_, (pss_cons (ps_expr (SM.pe_callR G_check_name (hr.mono (by decide)) (by rfl) T.g_check_name T.F_check_name.kp (SM.passE rfl rfl rfl rfl) (pa_cons (pv 1) pa_nil)))
      (pss_cons ps_never
      (pss_cons ps_never
      (pss_cons ps_never
      (pss_cons ps_never
      (pss_one ps_never)))))), ?_⟩
  exact ⟨_, rfl, x, rfl, fun y => absurd y nx, fun _ => q⟩
def spNames (K : PySem.W.Frag) : Sp := fun vs H Q _ => vs = [] ∧ ∀ H' p, Kp [] H H' → SqL K H' p (nm5.map V.str) → Q (.ref p) H'
theorem ok_law_names (T : Txt w K mg) : FnR P w K mg base (L2.CX P w) 1 T.a__law_names (spNames K) := by
  refine fn_mkR T.F__law_names sc__law_names T.b__law_names (fun vs H Q E h => by rw [h.1]; rfl) fun cdv A outer s H vs Q E hr h => ?_
  obtain ⟨rfl, q⟩ := h
  refine ⟨_, (pss_one (ps_ret (pe_lst (pa_cons pe_str (pa_cons pe_str (pa_cons pe_str (pa_cons pe_str (pa_cons pe_str pa_nil)))))))), ?_⟩
  exact ⟨(by show 5 ≤ sizeLine; decide), fun p hp => q _ p (Kp.new hp) (sqL_of upd_same)⟩
def spOf (f : Str → Int) : Sp := fun vs H Q _ => ∃ x, vs = [.str x] ∧ x ∈ nm5 ∧ ∀ H', Kp [] H H' → Q (.int (f x)) H'
theorem ok_law_block (T : Txt w K mg) : FnR P w K mg base (L2.CX P w) 1 T.a__law_block (spOf blLen) := by
  refine fn_mkR T.F__law_block sc__law_block T.b__law_block (fun vs H Q E h => by obtain ⟨x, rfl, _⟩ := h; rfl) fun cdv A outer s H vs Q E hr h => ?_
  obtain ⟨x, rfl, hx, q⟩ := h
  refine ⟨_, (pss_one (ps_ret (pe_ifExp (pt_cmpR op_in_seq (pv 0) (pe_tup (pa_cons pe_str (pa_cons pe_str pa_nil))) (by rfl)) pe_int pe_int))), ?_⟩
  refine ⟨_, rfl, (by show 2 ≤ sizeLine; decide), fun p hp => ?_⟩
  refine ⟨p, (["sha384", "sha512"] : List Str).map V.str, rfl, .inr (sqT_of upd_same), rfl, flat_strs _, ?_⟩
  rw [in_names]
  refine ⟨_, rfl, ite2 (fun c => ?_) (fun c => ?_)⟩
  · have e : blLen x = 128 := by unfold blLen; rw [if_pos (by simpa using c)]
    exact e ▸ q _ (Kp.new hp)
  · have e : blLen x = 64 := by unfold blLen; rw [if_neg (by simpa using c)]
    exact e ▸ q _ (Kp.new hp)
theorem ok_law_size (T : Txt w K mg) : FnR P w K mg base (L2.CX P w) 1 T.a__law_size (spOf dgLen) := by
  refine fn_mkR T.F__law_size sc__law_size T.b__law_size (fun vs H Q E h => by obtain ⟨x, rfl, _⟩ := h; rfl) fun cdv A outer s H vs Q E hr h => ?_
  obtain ⟨x, rfl, hx, q⟩ := h
  refine ⟨_, (pss_one (ps_ret (pe_dget (hu_of hr) (pe_disp (pps_cons pe_str pe_int (pps_cons pe_str pe_int (pps_cons pe_str pe_int (pps_cons pe_str pe_int (pps_cons pe_str pe_int pps_nil))))) (by rfl) (by rfl) (by simp) (by decide)) (pv 0) (fun _ _ => rfl)))), ?_⟩
  intro p hp
  refine ⟨upd_same, [(kS "sha1", .int 20), (kS "sha224", .int 28), (kS "sha256", .int 32), (kS "sha384", .int 48), (kS "sha512", .int 64)], rfl, by decide, _, rfl, p, .int (dgLen x), rfl, ?_, ?_⟩
  · have e : ∀ H : Hp, DGet (upd H p (.dK (mergeK [] [(kS "sha1", .int 20), (kS "sha224", .int 28), (kS "sha256", .int 32), (kS "sha384", .int 48), (kS "sha512", .int 64)]))) p (.str x) (some (.int (dgLen x))) := fun H => by
      have g := DGet.k (k := kS x) (upd_same (H := H) (a := p) (o := .dK (mergeK [] [(kS "sha1", .int 20), (kS "sha224", .int 28), (kS "sha256", .int 32), (kS "sha384", .int 48), (kS "sha512", .int 64)])))
      have v : valV (mergeK [] [(kS "sha1", V.int 20), (kS "sha224", .int 28), (kS "sha256", .int 32), (kS "sha384", .int 48), (kS "sha512", .int 64)]) (kS x) = some (.int (dgLen x)) := by
        rcases nm5_cases hx with rfl | rfl | rfl | rfl | rfl <;> rfl
      exact v ▸ g
    exact e _
  · exact q _ ((Kp.new hp).upd hp)
end
end SK
namespace SK
open PySem PySem.Spec PyProof.Rows L2 GxR SM
theorem free_of {cl : List (Str × Addr)} {names : List (Str × NameKind)} (h : (names.all fun y => y.2 != NameKind.free || (cl.lookup y.1).isSome) = true) : ∀ y ∈ names, y.2 = .free → ∃ c, cl.lookup y.1 = some c := fun y hy e => by
  have z := List.all_eq_true.mp h y hy
  rw [e] at z
  exact Option.isSome_iff_exists.mp (by simpa using z)
/-- what was found once all numbers below n were tried -/
def foundN : Nat → List Nat
  | 0 => []
  | n + 1 => if 2 ≤ n ∧ (foundN n).all (fun p => n % p != 0) = true then foundN n ++ [n] else foundN n
theorem found_ge : ∀ {n p : Nat}, p ∈ foundN n → 2 ≤ p
  | 0, p, h => by cases h
  | n + 1, p, h => by
    unfold foundN at h
    split at h
    · rename_i c
      rcases List.mem_append.mp h with h | h
      · exact found_ge h
      · rw [List.mem_singleton.mp h]
        exact c.1
    · exact found_ge h
/-- is v an int that does not divide n -/
def ndv (n : Int) : V → Bool
  | .int p => n % p != 0
  | _ => true
theorem all_ndv (n : Nat) (l : List Nat) : ((l.map fun q => V.int (q : Nat))).all (ndv n) = l.all (fun p => n % p != 0) := by
  induction l with
  | nil => rfl
  | cons p l ih =>
    have e : ndv (n : Int) (.int (p : Nat)) = (n % p != 0) := by
      show ((n : Int) % (p : Int) != 0) = (n % p != 0)
      rw [Bool.eq_iff_iff, bne_iff_ne, bne_iff_ne]
      omega
    show (ndv (n : Int) (.int (p : Nat)) && ((l.map fun q => V.int (q : Nat))).all (ndv n)) = _
    rw [ih, e]
    rfl
section
variable {P : Program} {w : World} {K : PySem.W.Frag} {mg : Str → Option Value} {base : Heap}
/-- number % prime within a generator expression over found, number of the def's -/
theorem elt_mod {X : Cx} {pins : List (Addr × Obj)} {σ : L2.St} {H : Hp} {s : Shared} {scope : Scope} {i : Nat} {n : Int} {xs : List V} {q1 q2 q3 : Pos} (I : Inv X pins σ H s) (hN : X.N[i]? = some "number") (hσ : σ[i]? = some (some (.int n))) (hk : X.env.kindOf "number" = some .cell) (hv : Vis X.env.scope "number")
    (kind : scope.kind = .function) (free : scope.names.lookup ("number" : Str) = some .free) (item : scope.names.lookup ("prime" : Str) = some .local) (clo : ∀ cells, (cloFrom cells scope.names []).lookup ("number" : Str) = some ((cells.lookup ("number" : Str)).getD 0)) (hxs : ∀ v ∈ xs, ∃ p : Int, v = .int p ∧ 0 < p) :
    EltV X s.heap scope "prime" (.BinOp (.Name "number" q1) .Mod (.Name "prime" q2) q3) (ndv n) xs := by
  intro v hmem env Ar Er u t z ru _ g
  obtain ⟨p, rfl, hp⟩ := hxs v hmem
  obtain ⟨tp, rfl⟩ := ru
  obtain ⟨m, _, look⟩ := I.loc
  obtain ⟨un, ⟨tn, rfl⟩, here⟩ := look i "number" (.int n) hN hσ hv
  obtain ⟨c, lc, cell⟩ : ∃ c, X.env.cells.lookup ("number" : Str) = some c ∧ s.heap.IsCell c (some (.int n tn)) := by
    rcases here with ⟨z, _⟩ | ⟨_, c, h1, h2⟩
    · rw [hk] at z
      cases z
    · exact ⟨c, h1, h2⟩
  have lc2 : env.cells.lookup ("number" : Str) = some c := by rw [g.cells, clo, lc]; rfl
  have k1 : env.scope.kind = .function := by rw [g.inScope]; exact kind
  have k2 : env.kindOf "number" = some .free := by unfold Env.kindOf; rw [g.inScope]; exact free
  have k3 : env.kindOf "prime" = some .local := by unfold Env.kindOf; rw [g.inScope]; exact item
  obtain ⟨m2, ns, bound⟩ := g.names
  refine wpAny_BinOp (wpAny_Name (wpAny_loadName_free k1 k2 lc2 (g.held c _ cell) (nm_loc k1 k3 ns bound (mod_int' (by omega) ?_)))  (by decide))
  refine ⟨.inr ⟨_, _, rfl, ?_⟩, ?_⟩
  · show (n % p != 0) = _
    rw [Int.fmod_eq_emod_of_nonneg n (by omega)]
  · exact ⟨_, _, rfl, fun _ _ e => e⟩
/-- primes(count): those below the bound B, which are count -/
def spPrimes (K : PySem.W.Frag) (P : Addr) : Sp := fun vs H Q _ => ∃ B : Nat, 2 ≤ B ∧ vs = [.int (foundN B).length] ∧ (∀ n, n < B → (foundN n).length < (foundN B).length) ∧ B < 1000 ∧ TabG H P ∧ ∀ H' D, Kp [] H H' → H' D = some (.lst ((foundN B).map fun p => V.int (p : Nat))) → Q (.ref D) H'
theorem found_le : ∀ n, (foundN n).length ≤ n
  | 0 => Nat.le_refl _
  | n + 1 => by
    have h := found_le n
    unfold foundN
    split
    · rw [List.length_append, List.length_singleton]
      omega
    · omega
theorem ok_primes (T : Txt w K mg) (TB : TabB base mg T.c_primes T.P_primes) : FnR P w K mg base (L2.CX P w) 5 T.a_primes (spPrimes K T.P_primes) := by
  obtain ⟨oc, od, kV, doc, pm, an, ct, osl, lk, hcd⟩ := T.L_primes
  have F : Fun K "primes" "primes" s_primes T.a_primes (PySem.W.fnOf "primes" "primes" (defArgs s_primes) (defBody s_primes) (defScope s_primes) .none kV doc pm an (.ref T.c_primes) ct) := fun_mk (st := s_primes) lk hcd T.F_primes.kp
  have G : FnOk P w K mg base (L2.CX P w) 5 T.a_primes (PySem.W.fnOf "primes" "primes" (defArgs s_primes) (defBody s_primes) (defScope s_primes) .none kV doc pm an (.ref T.c_primes) ct) ["count"] (spPrimes K T.P_primes) := by
    refine fn_of lk hcd sc_primes (fun vs H Q E h => ?_) fun A outer s H vs Q E hr h => ?_
    · obtain ⟨B, _, rfl, _⟩ := h
      rfl
    · obtain ⟨B, h2, rfl, hB, hsm, hP, q⟩ := h
      refine ⟨_, (pss_cons (ps_set (i := 1) sc_primes.nd rfl (Or.inl rfl) (pe_lst pa_nil))
      (pss_cons (ps_set (i := 2) sc_primes.nd rfl (Or.inr rfl) pe_int)
      (pss_cons (ps_while (passes_of rfl) (pt_cmpR op_lt (pe_callB call_len_seq (by rfl) T.m_len (by decide +kernel) (pa_cons (pv 1) pa_nil)) (pv 0) (nomark _))
      (pss_cons (ps_if (pt_val (SM.pe_allV (c := T.c_primes) (P := T.P_primes) hr (by rfl) T.m_all (by decide +kernel) TB rfl ⟨rfl, rfl, by decide +kernel, by decide +kernel, by decide +kernel, by exact free_of (by rfl)⟩ (pv 1) (fun _ => rfl)))
      (pss_one (ps_expr (pe_bm PySem.F.plainAttrs_list PySem.F.slot_list_append PySem.F.type_list_append mt_append (pv 1) (pa_cons (pv 2) pa_nil))))
      pss_nil)
      (pss_one (ps_aug (i := 2) sc_primes.nd rfl (Or.inr rfl) pe_int ip_add))))
      (pss_one (ps_ret (pv 1)))))), ?_⟩
      refine ⟨Nat.zero_le _, fun D hD => ?_⟩
      have hz : sizeLine = 16777216 := rfl
      have nP : D ≠ T.P_primes := by
        obtain ⟨ps, e, _⟩ := hP
        exact (ne_of_none e hD).symm
      refine ⟨fun m σ H' => ∃ n : Nat, m = B - n ∧ 2 ≤ n ∧ n ≤ B ∧ σ = [some (.int (foundN B).length), some (.ref D), some (.int (n : Nat))] ∧ Kp [] H H' ∧ H' D = some (.lst ((foundN n).map fun p => V.int (p : Nat))), ⟨_, 2, rfl, Nat.le_refl _, h2, rfl, Kp.new hD, upd_same⟩, ?_⟩
      rintro m σ H1 ⟨n, rfl, n2, nB, rfl, k1, e1⟩
      refine ⟨_, rfl, D, _, rfl, .inl (sqL_of e1), _, rfl, _, _, rfl, rfl, _, rfl, ?_⟩
      refine ite2 (fun c => ?_) (fun c => ?_)
      · have lt : n < B := by
          rw [List.length_map] at c
          have := of_decide_eq_true c
          rcases Nat.lt_or_eq_of_le nB with h | h
          · exact h
          · rw [h] at this; omega
        refine ⟨fun σ H' => σ = [some (.int (foundN B).length), some (.ref D), some (.int (n + 1 : Nat))] ∧ Kp [] H H' ∧ H' D = some (.lst ((foundN (n + 1)).map fun p => V.int (p : Nat))), fun σ' H' ⟨h1, h3, h4⟩ => ⟨B - (n + 1), by omega, n + 1, rfl, by omega, lt, h1, h3, h4⟩, ?_⟩
        have hxs : ∀ v ∈ (foundN n).map (fun p => V.int (p : Nat)), ∃ p : Int, v = .int p ∧ 0 < p := fun v hv => by
          obtain ⟨p, hp, rfl⟩ := List.mem_map.mp hv
          have := found_ge hp
          exact ⟨_, rfl, by omega⟩
        have hP1 := k1.tab _ hP
        refine ⟨_, rfl, D, (foundN n).map (fun p => V.int (p : Nat)), ndv n, rfl, .inr (sqL_of e1), fun v hv => ?_, fun pins s I => ?_, hP1, fun H2 t2 => ?_⟩
        · obtain ⟨p, rfl, _⟩ := hxs v hv
          exact ⟨"int", rfl⟩
        · exact elt_mod I (i := 2) rfl rfl rfl (.inr (.inl rfl)) rfl rfl rfl (fun _ => rfl) hxs
        have k2 : Kp [] H H2 := k1.trans (Kp.grown hP1 t2)
        have e2 : H2 D = some (.lst ((foundN n).map fun p => V.int (p : Nat))) := by rw [t2.2 D nP]; exact e1
        rw [all_ndv]
        refine ⟨_, rfl, ite2 (fun c => ?_) (fun c => ?_)⟩
        · have ef : foundN (n + 1) = foundN n ++ [n] := by
            rw [foundN, if_pos ⟨n2, c⟩]
          refine ⟨.ref D, rfl, .inl ⟨rfl, _, .inl (.inl e2)⟩, _, rfl, D, _, _, rfl, rfl, e2, ?_, ?_⟩
          · have := found_le n
            rw [List.length_map, hz]
            omega
          · exact ⟨_, rfl, _, _, rfl, rfl, by push_cast; rfl, k2.upd hD, by rw [upd_same, ef, List.map_append]; rfl⟩
        · have ef : foundN (n + 1) = foundN n := by
            rw [foundN, if_neg fun z => c z.2]
          exact ⟨_, rfl, _, _, rfl, rfl, by push_cast; rfl, k2, by rw [ef]; exact e2⟩
      · have e : n = B := by
          rcases Nat.lt_or_eq_of_le nB with h | h
          · exfalso
            rw [List.length_map] at c
            have h3 := hB n h
            exact c (decide_eq_true (by omega))
          · exact h
        subst e
        exact ⟨_, rfl, q H1 D k1 e1⟩
  have bb : Binds K (PySem.W.fnOf "primes" "primes" (defArgs s_primes) (defBody s_primes) (defScope s_primes) .none kV doc pm an (.ref T.c_primes) ct) ["count"] [] := F.binds (ps := ["count"]) fun _ _ _ _ _ _ us hl => match us, hl with | [_], _ => rfl
  exact (G.raw bb .nil).imp fun vs H Q E h => by rw [List.append_nil]; exact h
end
end SK
namespace SK
open PySem PySem.Spec PyProof.Rows L2 GxR SM
section
variable {X : Cx}
/-- math.isqrt of a number that is not great -/
theorem call_isqrt : CallR X (.builtin "math.isqrt") (fun xs H Q => ∃ n : Int, xs = [.int n] ∧ 0 ≤ n ∧ n.toNat.log2 ≤ 10000 ∧ Q (.int (Float64.isqrt n.toNat : Nat)) H) := by
  intro pins s σ H xs us Q I r h
  obtain ⟨n, rfl, h0, h1, q⟩ := h
  obtain ⟨u, rfl, t, rfl⟩ := vals1 r
  exact PySem.call_function_meets PySem.W.MGF.kind_isqrt PySem.W.MGF.plain_isqrt PySem.W.MGF.entry_isqrt (PySem.W.MGF.args_isqrt _) (PySem.W.mg_run_isqrt n t (by omega) (by omega) (by omega)).meets ⟨.int _, H, I.tok _, ⟨_, rfl⟩, q⟩
end
abbrev iv (l : List Int) : List V := l.map V.int
abbrev nv (l : List Nat) : List V := l.map fun p => V.int (p : Nat)
/-- the fraction of a prime's square root -/
def sqf (p : Int) : Int := Builtin.bitAnd (Float64.isqrt (p * 2 ^ 128).toNat : Nat) 18446744073709551615
def fr16 : List Int := (foundN 54).map fun p => sqf (p : Nat)
theorem len54 : (foundN 54).length = 16 := by decide +kernel
theorem less54 : ∀ n, n < 54 → (foundN n).length < (foundN 54).length := by decide +kernel
def chV (x : Str) : List Int :=
  if x = "sha1" then [1732584193, 4023233417, 2562383102, 271733878, 3285377520]
  else if x = "sha224" then (cutL fr16 (some 8) none).map fun n => Builtin.bitAnd n 4294967295
  else if x = "sha256" then (cutL fr16 none (some 8)).map fun n => n / 2 ^ 32
  else if x = "sha384" then cutL fr16 (some 8) none else cutL fr16 none (some 8)
theorem iv_get {L : List Int} {i : Nat} (h : i < L.length) : (iv L)[i]? = some (.int L[i]) := ints_get h
/-- one turn of a comprehension over numbers, its list at D -/
theorem lc_next {D : Addr} {H1 H' H4 : Hp} {L : List Int} {f : Int → Int} {i : Nat} (hi : i < L.length) (hl : L.length ≤ 1000) (hD : H1 D = none) (k1 : Kp [] H1 H') (e : H' D = some (.lst (iv ((L.take i).map f)))) (k4 : Kp [] H' H4) :
    ∃ acc, H4 D = some (.lst acc) ∧ acc.length < sizeLine ∧ (Kp [] H1 (upd H4 D (.lst (acc ++ [V.int (f L[i])]))) ∧ upd H4 D (.lst (acc ++ [V.int (f L[i])])) D = some (.lst (iv ((L.take (i + 1)).map f)))) := by
  have hz : sizeLine = 16777216 := rfl
  refine ⟨_, k4.at e, ?_, (k1.trans k4).upd hD, ?_⟩
  · rw [List.length_map, List.length_map, List.length_take, hz]
    omega
  · rw [upd_same, List.take_succ, List.getElem?_eq_getElem hi]
    simp only [iv, Option.toList_some, List.map_append, List.map_cons, List.map_nil]
/-- before its first turn, behind its last one -/
theorem lc_first {D : Addr} {H1 : Hp} {L : List Int} {f : Int → Int} (hD : H1 D = none) : Kp [] H1 (upd H1 D (.lst [])) ∧ upd H1 D (.lst []) D = some (.lst (iv ((L.take 0).map f))) := ⟨Kp.new hD, upd_same⟩
section
variable {P : Program} {w : World} {K : PySem.W.Frag} {mg : Str → Option Value} {base : Heap}
def spSqf : Sp := fun vs H Q _ => ∃ p : Nat, vs = [.int (p : Nat)] ∧ p < 1000 ∧ Q (.int (sqf (p : Nat))) H
theorem ok_square_root_fraction (T : Txt w K mg) : FnR P w K mg base (L2.CX P w) 1 T.a_square_root_fraction spSqf := by
  refine fn_mkR T.F_square_root_fraction sc_square_root_fraction T.b_square_root_fraction (fun vs H Q E h => by obtain ⟨p, rfl, _⟩ := h; rfl) fun cdv A outer s H vs Q E hr h => ?_
  obtain ⟨p, rfl, hp, q⟩ := h
  refine ⟨_, (pss_one (ps_ret (pe_op op_and (pe_callBfun call_isqrt (by rfl) T.g_isqrt (pa_cons (pe_op op_shl (pv 0) pe_int) pa_nil)) (pe_glob (v := .int 18446744073709551615) rfl T.g_LOW_64 ⟨_, rfl⟩)))), ?_⟩
  refine ⟨_, rfl, _, _, rfl, rfl, ⟨by decide, by decide, by omega⟩, _, rfl, ?_, ?_, _, _, rfl, rfl, q⟩
  · show (0 : Int) ≤ (p : Nat) * 2 ^ (128 : Int).toNat
    exact Int.mul_nonneg (by omega) (by decide)
  · have e : ((p : Nat) * 2 ^ (128 : Int).toNat : Int).toNat = p * 2 ^ 128 := by
      show ((p : Int) * 2 ^ 128).toNat = p * 2 ^ 128
      omega
    show ((p : Nat) * 2 ^ (128 : Int).toNat : Int).toNat.log2 ≤ 10000
    rw [e]
    by_cases z : p * 2 ^ 128 = 0
    · rw [z]; decide
    · have : (p * 2 ^ 128).log2 < 10000 := (Nat.log2_lt z).mpr (Nat.lt_of_lt_of_le (Nat.mul_lt_mul_of_pos_right hp (by decide)) (Nat.le_of_lt (by decide +kernel : 1000 * 2 ^ 128 < 2 ^ 10000)))
      omega
def rTup (K : PySem.W.Frag) (f : Str → List Int) : Str → Hp → VK → Prop := fun x H Q => ∀ H' p, Kp [] H H' → SqT K H' p (iv (f x)) → Q (.ref p) H'
def spChain (K : PySem.W.Frag) (P : Addr) (R : Str → Hp → VK → Prop) : Sp := fun vs H Q _ => ∃ x, vs = [.str x] ∧ x ∈ nm5 ∧ TabG H P ∧ R x H Q
theorem ok_start_chain (T : Txt w K mg) (G_primes : FnR P w K mg base (L2.CX P w) 5 T.a_primes (spPrimes K T.P_primes)) (G_square_root_fraction : FnR P w K mg base (L2.CX P w) 1 T.a_square_root_fraction spSqf) :
    FnR P w K mg base (L2.CX P w) 7 T.a_start_chain (spChain K T.P_primes (rTup K chV)) := by
  refine fn_mkR T.F_start_chain sc_start_chain T.b_start_chain (fun vs H Q E h => by obtain ⟨x, rfl, _⟩ := h; rfl) fun cdv A outer s H vs Q E hr h => ?_
  obtain ⟨x, rfl, hx, hP, q⟩ := h
  refine ⟨_, (pss_cons (ps_if (pt_cmpR op_eq (pv 0) pe_str (nomark _))
      (pss_one (ps_ret (pe_glob (v := .ref T.a_SHA1_CHAIN) rfl T.g_SHA1_CHAIN rfl)))
      pss_nil)
      (pss_cons (ps_setLc (i := 1) (own := [("prime", 2)]) (g := gName 2) (tt := tYes) (by rfl) sc_start_chain.nd rfl rfl (sw_true rfl rfl rfl (by decide +kernel)) (pi_list (SM.pe_callR G_primes (hr.mono (by decide)) (by rfl) T.g_primes T.F_primes.kp (SM.passE rfl rfl rfl rfl) (pa_cons pe_int pa_nil))) (blkOk_by (own := [("prime", 2)]) (N := n_start_chain) (sc := defScope s_start_chain) (by decide +kernel)) (fun _ _ _ _ _ => pg_name (i := 2) sc_start_chain.nd rfl (Or.inl rfl)) (fun _ _ _ _ _ => pts_nil) (fun _ _ _ _ _ => (SM.pe_callR G_square_root_fraction (hr.mono (by decide)) (by rfl) T.g_square_root_fraction T.F_square_root_fraction.kp SM.pass0S (pa_cons (pv 2) pa_nil))))
      (pss_cons (ps_if (pt_cmpR op_eq (pv 0) pe_str (nomark _))
      (pss_one (ps_ret (pe_callTy call_tuple_of (by rfl) T.m_tuple (by decide +kernel) (pa_cons (pe_lc (own := [("fraction", 3)]) (g := gName 3) (tt := tYes) (by rfl) sc_start_chain.nd (pi_list (pe_slice sl_list (pv 1) (po_some pe_int) po_none)) (blkOk_by (own := [("fraction", 3)]) (N := n_start_chain) (sc := defScope s_start_chain) (by decide +kernel)) (fun _ _ _ _ _ => pg_name (i := 3) sc_start_chain.nd rfl (Or.inl rfl)) (fun _ _ _ _ _ => pts_nil) (fun _ _ _ _ _ => (pe_op op_and (pv 3) (pe_glob (v := .int 4294967295) rfl T.g_LOW_32_families ⟨_, rfl⟩)))) pa_nil))))
      pss_nil)
      (pss_cons (ps_if (pt_cmpR op_eq (pv 0) pe_str (nomark _))
      (pss_one (ps_ret (pe_callTy call_tuple_of (by rfl) T.m_tuple (by decide +kernel) (pa_cons (pe_lc (own := [("fraction", 3)]) (g := gName 3) (tt := tYes) (by rfl) sc_start_chain.nd (pi_list (pe_slice sl_list (pv 1) po_none (po_some pe_int))) (blkOk_by (own := [("fraction", 3)]) (N := n_start_chain) (sc := defScope s_start_chain) (by decide +kernel)) (fun _ _ _ _ _ => pg_name (i := 3) sc_start_chain.nd rfl (Or.inl rfl)) (fun _ _ _ _ _ => pts_nil) (fun _ _ _ _ _ => (pe_op op_shr (pv 3) pe_int))) pa_nil))))
      pss_nil)
      (pss_cons (ps_if (pt_cmpR op_eq (pv 0) pe_str (nomark _))
      (pss_one (ps_ret (pe_callTy call_tuple_of (by rfl) T.m_tuple (by decide +kernel) (pa_cons (pe_slice sl_list (pv 1) (po_some pe_int) po_none) pa_nil))))
      pss_nil)
      (pss_one (ps_ret (pe_callTy call_tuple_of (by rfl) T.m_tuple (by decide +kernel) (pa_cons (pe_slice sl_list (pv 1) po_none (po_some pe_int)) pa_nil))))))))), ?_⟩
  refine cutAt (fun σ H' => ¬ x = "sha1" ∧ σ = [some (.str x), none, none, none] ∧ H = H') (fun N hN => ⟨_, rfl, rfl, _, rfl, ite2 (fun c => ?_) (fun c => ?_)⟩) ?_
  · have e : x = "sha1" := V.str.inj (of_decide_eq_true c)
    subst e
    exact q H _ (Kp.refl _ _) (T.s_SHA1_CHAIN H)
  · exact hN _ _ ⟨fun e => c (by rw [e]; simp), rfl, rfl⟩
  rintro _ _ ⟨n1, rfl, rfl⟩
  -- the fractions
  refine cutAt (fun σ H' => (∃ D o2 o3, σ = [some (.str x), some (.ref D), o2, o3] ∧ H' D = some (.lst (iv fr16))) ∧ Kp [] H H') (fun N hN => ?_) ?_
  · refine ⟨54, by decide, by show [V.int 16] = [V.int ((foundN 54).length : Nat)]; rw [len54]; rfl, less54, by decide, hP, fun H1 D0 k1 e1 => ⟨D0, rfl, ⟨_, sqL_of e1⟩, fun D hD => ?_⟩⟩
    have e2 : (foundN 54).map (fun p => V.int (p : Nat)) = iv ((foundN 54).map fun p => ((p : Nat) : Int)) := by rw [iv, List.map_map]; rfl
    have hs : SqL K H1 D0 (iv ((foundN 54).map fun p => ((p : Nat) : Int))) := sqL_of (by rw [e1, e2])
    have hl : ((foundN 54).map fun p => ((p : Nat) : Int)).length ≤ 1000 := by rw [List.length_map, len54]; decide
    refine lc_it (walk_list (K := K) (a := D0) (xs := iv ((foundN 54).map fun p => ((p : Nat) : Int)))) (fun i H' => Kp [] H1 H' ∧ H' D = some (.lst (iv ((((foundN 54).map fun p => ((p : Nat) : Int)).take i).map sqf)))) (lc_first hD) (fun i H' _ h => h.1.seqL hs) ?_ ?_
    · rintro i y H2 H3 hi ⟨k, e⟩ ⟨rfl, hy⟩
      rw [List.length_map] at hi
      rw [iv_get hi] at hy
      cases hy
      refine ⟨rfl, yes_then ⟨_, rfl, (foundN 54)[i]'(by simpa using hi), ?_, ?_, ?_⟩⟩
      · rw [List.getElem_map]
      · have := List.getElem_mem (l := foundN 54) (n := i) (by simpa using hi)
        exact (by decide +kernel : ∀ p ∈ foundN 54, p < 1000) _ this
      · have z := lc_next (f := sqf) hi hl hD k e (Kp.refl [] H3)
        rw [List.getElem_map] at z
        exact z
    · rintro H2 ⟨k, e⟩
      rw [List.length_map, List.take_length, List.map_map] at e
      exact hN _ _ ⟨⟨D, _, _, rfl, e⟩, k1.trans k⟩
  rintro _ H1 ⟨⟨D, o2, o3, rfl, e1⟩, k1⟩
  have fl : fr16.length ≤ 1000 := by decide +kernel
  -- a part of them, each changed
  refine ⟨_, rfl, rfl, _, rfl, ite2 (fun c => ?_) (fun c => ?_)⟩
  · have e : x = "sha224" := V.str.inj (of_decide_eq_true c)
    subst e
    refine ⟨_, rfl, 8, rfl, ?_⟩
    dsimp only [tNoPart]
    refine ⟨D, _, rfl, sqL_of e1, fun p hp => ?_⟩
    rw [cutV_map]
    have kp : Kp [] H1 (upd H1 p (.lst (iv (cutL fr16 (some 8) none)))) := Kp.new hp
    refine ⟨p, rfl, ⟨_, sqL_of upd_same⟩, fun D2 hD2 => ?_⟩
    refine lc_it (walk_list (K := K) (a := p) (xs := iv (cutL fr16 (some 8) none))) (fun i H' => Kp [] _ H' ∧ H' D2 = some (.lst (iv (((cutL fr16 (some 8) none).take i).map fun n => Builtin.bitAnd n 4294967295)))) (lc_first hD2) (fun i H' _ h => h.1.seqL (sqL_of upd_same)) ?_ ?_
    · rintro i y H2 H3 hi ⟨k, e⟩ ⟨rfl, hy⟩
      rw [List.length_map] at hi
      rw [iv_get hi] at hy
      cases hy
      exact ⟨rfl, yes_then ⟨_, rfl, _, _, rfl, rfl, lc_next (f := fun n => Builtin.bitAnd n 4294967295) hi (Nat.le_trans (cutL_le _ _ _) fl) hD2 k e (Kp.refl [] H3)⟩⟩
    · rintro H2 ⟨k, e⟩
      rw [List.length_map, List.take_length] at e
      exact ⟨D2, _, rfl, .inl ⟨sqL_of e, fun l hl => q _ l (((k1.trans kp).trans k).trans (Kp.new hl)) (sqT_of upd_same)⟩⟩
  have n2 : ¬ x = "sha224" := fun e => c (by rw [e]; simp)
  refine ⟨_, rfl, rfl, _, rfl, ite2 (fun c => ?_) (fun c => ?_)⟩
  · have e : x = "sha256" := V.str.inj (of_decide_eq_true c)
    subst e
    refine ⟨_, rfl, 8, rfl, D, _, rfl, sqL_of e1, fun p hp => ?_⟩
    rw [cutV_map]
    have kp : Kp [] H1 (upd H1 p (.lst (iv (cutL fr16 none (some 8))))) := Kp.new hp
    refine ⟨p, rfl, ⟨_, sqL_of upd_same⟩, fun D2 hD2 => ?_⟩
    refine lc_it (walk_list (K := K) (a := p) (xs := iv (cutL fr16 none (some 8)))) (fun i H' => Kp [] _ H' ∧ H' D2 = some (.lst (iv (((cutL fr16 none (some 8)).take i).map fun n => n / 2 ^ 32)))) (lc_first hD2) (fun i H' _ h => h.1.seqL (sqL_of upd_same)) ?_ ?_
    · rintro i y H2 H3 hi ⟨k, e⟩ ⟨rfl, hy⟩
      rw [List.length_map] at hi
      rw [iv_get hi] at hy
      cases hy
      exact ⟨rfl, yes_then ⟨_, rfl, _, _, rfl, rfl, (by show (0 : Int) ≤ 32; decide), lc_next (f := fun n => n / 2 ^ 32) hi (Nat.le_trans (cutL_le _ _ _) fl) hD2 k e (Kp.refl [] H3)⟩⟩
    · rintro H2 ⟨k, e⟩
      rw [List.length_map, List.take_length] at e
      exact ⟨D2, _, rfl, .inl ⟨sqL_of e, fun l hl => q _ l (((k1.trans kp).trans k).trans (Kp.new hl)) (sqT_of upd_same)⟩⟩
  have n3 : ¬ x = "sha256" := fun e => c (by rw [e]; simp)
  refine ⟨_, rfl, rfl, _, rfl, ite2 (fun c => ?_) (fun c => ?_)⟩
  · have e : x = "sha384" := V.str.inj (of_decide_eq_true c)
    subst e
    refine ⟨_, rfl, 8, rfl, ?_⟩
    dsimp only [tNoPart]
    refine ⟨D, _, rfl, sqL_of e1, fun p hp => ?_⟩
    rw [cutV_map]
    exact ⟨p, _, rfl, .inl ⟨sqL_of upd_same, fun l hl => q _ l ((k1.trans (Kp.new hp)).trans (Kp.new hl)) (sqT_of upd_same)⟩⟩
  have n4 : ¬ x = "sha384" := fun e => c (by rw [e]; simp)
  have e : chV x = cutL fr16 none (some 8) := by unfold chV; rw [if_neg n1, if_neg n2, if_neg n3, if_neg n4]
  refine ⟨_, rfl, 8, rfl, D, _, rfl, sqL_of e1, fun p hp => ?_⟩
  rw [cutV_map]
  exact ⟨p, _, rfl, .inl ⟨sqL_of upd_same, fun l hl => q _ l ((k1.trans (Kp.new hp)).trans (Kp.new hl)) (sqT_of (by rw [upd_same, e]))⟩⟩
end
end SK
namespace SK
open PySem PySem.Spec PyProof.Rows L2 GxR SM
/-- the bounds of the law's search, by its steps -/
def bs (n : Int) : Nat → Int × Int
  | 0 => (0, 2 ^ 72)
  | k + 1 => if ((bs n k).1 + (bs n k).2) / 2 * (((bs n k).1 + (bs n k).2) / 2) * 1 ≤ n * 2 ^ 128 then (((bs n k).1 + (bs n k).2) / 2, (bs n k).2) else ((bs n k).1, ((bs n k).1 + (bs n k).2) / 2)
def lrt (n : Int) : Int := Builtin.bitAnd (bs n 72).1 18446744073709551615
theorem bs_ok (n : Int) : ∀ k, k ≤ 72 → 0 ≤ (bs n k).1 ∧ (bs n k).2 ≤ 2 ^ 72 ∧ (bs n k).2 - (bs n k).1 = 2 ^ (72 - k)
  | 0, _ => ⟨by show (0 : Int) ≤ 0; decide, by show (2 : Int) ^ 72 ≤ 2 ^ 72; decide, by show (2 : Int) ^ 72 - 0 = 2 ^ 72; decide⟩
  | k + 1, h => by
    obtain ⟨h1, h2, h3⟩ := bs_ok n k (by omega)
    have e : (2 : Int) ^ (72 - k) = 2 * 2 ^ (72 - (k + 1)) := by
      rw [show 72 - k = (72 - (k + 1)) + 1 by omega, Int.pow_succ]
      omega
    rw [e] at h3
    have p : (0 : Int) < 2 ^ (72 - (k + 1)) := Int.pow_pos (by decide)
    generalize (2 : Int) ^ (72 - (k + 1)) = z at *
    unfold bs
    split
    · refine ⟨?_, h2, ?_⟩ <;> dsimp only <;> omega
    · refine ⟨h1, ?_, ?_⟩ <;> dsimp only <;> omega
section
variable {P : Program} {w : World} {K : PySem.W.Frag} {mg : Str → Option Value} {base : Heap}
theorem ok_first_chain (T : Txt w K mg) (G_check_name : FnR P w K mg base (L2.CX P w) 1 T.a_check_name (spNamed T.a_ChoiceError rNon)) (G_start_chain : FnR P w K mg base (L2.CX P w) 7 T.a_start_chain (spChain K T.P_primes (rTup K chV))) :
    FnR P w K mg base (L2.CX P w) 8 T.a_first_chain (spNamed T.a_ChoiceError fun x H Q => TabG H T.P_primes ∧ rTup K chV x H Q) := by
  refine fn_mkR T.F_first_chain sc_first_chain T.b_first_chain spNamed_len fun cdv A outer s H vs Q E hr h => ?_
  obtain ⟨x, rfl, q1, q2⟩ := h
  refine ⟨_, (pss_cons (ps_expr (SM.pe_callR G_check_name (hr.mono (by decide)) (by rfl) T.g_check_name T.F_check_name.kp (SM.passE rfl rfl rfl rfl) (pa_cons (pv 0) pa_nil)))
      (pss_one (ps_ret (SM.pe_callR G_start_chain (hr.mono (by decide)) (by rfl) T.g_start_chain T.F_start_chain.kp (SM.passE rfl rfl rfl rfl) (pa_cons (pv 0) pa_nil))))), ?_⟩
  refine ⟨_, rfl, x, rfl, fun hx H1 k1 => ?_, q2⟩
  obtain ⟨hP, q⟩ := q1 hx
  exact ⟨_, rfl, x, rfl, hx, k1.tab _ hP, fun H' p k => q H' p (k1.trans k)⟩
def spRoot : Sp := fun vs H Q _ => ∃ p : Nat, vs = [.int (p : Nat), .int 2] ∧ p < 1000 ∧ Q (.int (lrt (p : Nat))) H
theorem ok_law_root (T : Txt w K mg) : FnR P w K mg base (L2.CX P w) 1 T.a__law_root spRoot := by
  refine fn_mkR T.F__law_root sc__law_root T.b__law_root (fun vs H Q E h => by obtain ⟨p, rfl, _⟩ := h; rfl) fun cdv A outer s H vs Q E hr h => ?_
  obtain ⟨p, rfl, hp, q⟩ := h
  refine ⟨_, (pss_cons (ps_set (i := 2) sc__law_root.nd rfl (Or.inl rfl) pe_int)
      (pss_cons (ps_set (i := 3) sc__law_root.nd rfl (Or.inl rfl) (pe_op op_shl pe_int pe_int))
      (pss_cons (ps_while (passes_of rfl) (pt_cmpR op_gt (pe_op op_sub (pv 3) (pv 2)) pe_int (nomark _))
      (pss_cons (ps_set (i := 4) sc__law_root.nd rfl (Or.inl rfl) (pe_op op_fdiv (pe_op op_add (pv 2) (pv 3)) pe_int))
      (pss_cons (ps_set (i := 5) sc__law_root.nd rfl (Or.inl rfl) (pe_ifExp (pt_cmpR op_eq (pv 1) pe_int (nomark _)) (pv 4) pe_int))
      (pss_one (ps_if (pt_cmpR op_le (pe_op op_mulW (pe_op op_mulW (pv 4) (pv 4)) (pv 5)) (pe_op op_shl (pv 0) (pe_op op_mul pe_int (pv 1))) (nomark _))
      (pss_one (ps_set (i := 2) sc__law_root.nd rfl (Or.inl rfl) (pv 4)))
      (pss_one (ps_set (i := 3) sc__law_root.nd rfl (Or.inl rfl) (pv 4))))))))
      (pss_one (ps_ret (pe_op op_and (pv 2) pe_int)))))), ?_⟩
  refine ⟨_, _, rfl, rfl, ⟨by decide, by decide, by decide⟩, ?_⟩
  refine ⟨fun m σ H' => ∃ (k : Nat) (o4 o5 : Option V), m = 72 - k ∧ k ≤ 72 ∧ σ = [some (.int (p : Nat)), some (.int 2), some (.int (bs p k).1), some (.int (bs p k).2), o4, o5] ∧ H = H', ⟨72, 0, none, none, rfl, by decide, by rfl, rfl⟩, ?_⟩
  rintro m σ H1 ⟨k, o4, o5, rfl, hk, rfl, rfl⟩
  obtain ⟨b1, b2, b3⟩ := bs_ok p k hk
  refine ⟨_, rfl, _, rfl, _, _, rfl, rfl, _, _, rfl, rfl, _, rfl, ite2 (fun c => ?_) (fun c => ?_)⟩
  · have c' : 1 < (bs p k).2 - (bs p k).1 := of_decide_eq_true c
    have lt : k < 72 := by
      rcases Nat.lt_or_eq_of_le hk with h | h
      · exact h
      · rw [b3, h] at c'
        exact absurd c' (by decide)
    refine ⟨fun σ H' => (∃ o4 o5 : Option V, σ = [some (.int (p : Nat)), some (.int 2), some (.int (bs p (k + 1)).1), some (.int (bs p (k + 1)).2), o4, o5]) ∧ H = H', fun σ' H' ⟨⟨o4, o5, h1⟩, h3⟩ => ⟨72 - (k + 1), by omega, k + 1, o4, o5, rfl, lt, h1, h3⟩, ?_⟩
    have m0 : 0 ≤ ((bs p k).1 + (bs p k).2) / 2 := by omega
    have m1 : ((bs p k).1 + (bs p k).2) / 2 ≤ 2 ^ 72 := by omega
    have eb : bs p (k + 1) = if ((bs p k).1 + (bs p k).2) / 2 * (((bs p k).1 + (bs p k).2) / 2) * 1 ≤ p * 2 ^ 128 then (((bs p k).1 + (bs p k).2) / 2, (bs p k).2) else ((bs p k).1, ((bs p k).1 + (bs p k).2) / 2) := by rw [bs]
    refine ⟨_, rfl, _, rfl, _, _, rfl, rfl, _, _, rfl, rfl, ⟨by decide, by decide⟩, ?_⟩
    refine ⟨_, rfl, rfl, _, rfl, ite2 (fun c => absurd c (by decide)) (fun _ => ?_)⟩
    refine ⟨_, rfl, _, rfl, _, _, rfl, rfl, ?_, _, rfl, _, _, rfl, rfl, ?_, _, rfl, _, rfl, _, _, rfl, rfl, .inl ⟨by decide, by decide⟩, _, _, rfl, rfl, ⟨by decide, by decide, by omega⟩, _, _, rfl, rfl, _, rfl, ite2 (fun c => ?_) (fun c => ?_)⟩
    · exact wide_mul (a := 73) (b := 73) (by omega) (by omega) (by decide) (by decide) (by decide)
    · have h : (((bs p k).1 + (bs p k).2) / 2).natAbs < 2 ^ 73 := by omega
      refine wide_mul (a := 146) (b := 1) ?_ (by decide) (by decide) (by decide) (by decide)
      show (((bs p k).1 + (bs p k).2) / 2 * (((bs p k).1 + (bs p k).2) / 2)).natAbs < 2 ^ 146
      rw [Int.natAbs_mul]
      exact Nat.lt_of_lt_of_le (Nat.mul_lt_mul'' h h) (by decide)
    · have c' : ((bs p k).1 + (bs p k).2) / 2 * (((bs p k).1 + (bs p k).2) / 2) * 1 ≤ (p : Int) * 2 ^ 128 := of_decide_eq_true c
      have e1 := eb.trans (if_pos c')
      exact ⟨_, rfl, ⟨_, _, by rw [e1]; rfl⟩, rfl⟩
    · have c' : ¬ ((bs p k).1 + (bs p k).2) / 2 * (((bs p k).1 + (bs p k).2) / 2) * 1 ≤ (p : Int) * 2 ^ 128 := fun z => c (decide_eq_true z)
      have e1 := eb.trans (if_neg c')
      exact ⟨_, rfl, ⟨_, _, by rw [e1]; rfl⟩, rfl⟩
  · have e : k = 72 := by
      rcases Nat.lt_or_eq_of_le hk with h | h
      · exfalso
        refine c (decide_eq_true ?_)
        rw [b3]
        have : (2 : Int) ^ (72 - k) = 2 * 2 ^ (71 - k) := by
          rw [show 72 - k = (71 - k) + 1 by omega, Int.pow_succ]
          omega
        have p : (0 : Int) < 2 ^ (71 - k) := Int.pow_pos (by decide)
        omega
      · exact h
    subst e
    exact ⟨_, rfl, _, _, rfl, rfl, q⟩
end
end SK
namespace SK
open PySem PySem.Spec PyProof.Rows L2 GxR SM
/-- the answers of the law's test over the first i of what was found -/
def tb (n i : Nat) : List Bool := (((foundN n).take i).filter fun p => decide (p * p ≤ n)).map fun p => n % p != 0
theorem tb_all : ∀ n, n < 54 → (tb n (foundN n).length).all id = (foundN n).all (fun p => n % p != 0) := by decide +kernel
theorem tb_len (n i : Nat) : (tb n i).length ≤ n := by
  unfold tb
  rw [List.length_map]
  exact Nat.le_trans (List.length_filter_le ..) (Nat.le_trans (List.length_take_le' ..) (found_le n))
theorem tb_yes {n i : Nat} (hi : i < (foundN n).length) (c : (foundN n)[i] * (foundN n)[i] ≤ n) : tb n (i + 1) = tb n i ++ [n % (foundN n)[i] != 0] := by
  unfold tb
  rw [List.take_succ, List.getElem?_eq_getElem hi, Option.toList_some, List.filter_append, List.map_append]
  simp [List.filter, c]
theorem tb_no {n i : Nat} (hi : i < (foundN n).length) (c : ¬ (foundN n)[i] * (foundN n)[i] ≤ n) : tb n (i + 1) = tb n i := by
  unfold tb
  rw [List.take_succ, List.getElem?_eq_getElem hi, Option.toList_some, List.filter_append, List.map_append]
  simp [List.filter, c]
theorem found_lt : ∀ {n p : Nat}, p ∈ foundN n → p < n
  | 0, p, h => by cases h
  | n + 1, p, h => by
    unfold foundN at h
    split at h
    · rcases List.mem_append.mp h with h | h
      · exact Nat.lt_succ_of_lt (found_lt h)
      · rw [List.mem_singleton.mp h]
        exact Nat.lt_succ_self _
    · exact Nat.lt_succ_of_lt (found_lt h)
theorem nv_get {L : List Nat} {i : Nat} (h : i < L.length) : (nv L)[i]? = some (.int (L[i] : Nat)) := by
  rw [nv, List.getElem?_map, List.getElem?_eq_getElem h]
  rfl
section
variable {P : Program} {w : World} {K : PySem.W.Frag} {mg : Str → Option Value} {base : Heap}
def spLPrimes : Sp := fun vs H Q _ => vs = [.int 16] ∧ ∀ H' D, Kp [] H H' → H' D = some (.lst (nv (foundN 54))) → Q (.ref D) H'
theorem ok_law_primes (T : Txt w K mg) : FnR P w K mg base (L2.CX P w) 1 T.a__law_primes spLPrimes := by
  refine fn_mkR T.F__law_primes sc__law_primes T.b__law_primes (fun vs H Q E h => by rw [h.1]; rfl) fun cdv A outer s H vs Q E hr h => ?_
  obtain ⟨rfl, q⟩ := h
  refine ⟨_, (pss_cons (ps_set (i := 1) sc__law_primes.nd rfl (Or.inl rfl) (pe_lst pa_nil))
      (pss_cons (ps_set (i := 2) sc__law_primes.nd rfl (Or.inr rfl) pe_int)
      (pss_cons (ps_while (passes_of rfl) (pt_cmpR op_lt (pe_callB call_len_seq (by rfl) T.m_len (by decide +kernel) (pa_cons (pv 1) pa_nil)) (pv 0) (nomark _))
      (pss_cons (ps_if (pt_val (pe_callB (cr_all rfl) (by rfl) T.m_all (by decide +kernel) (pa_cons (pe_lc (own := [("prime", 3)]) (g := gName 3) (tt := _) (by rfl) sc__law_primes.nd (pi_list (pv 1)) (blkOk_by (own := [("prime", 3)]) (N := n__law_primes) (sc := defScope s__law_primes) (by decide +kernel)) (fun _ _ _ _ _ => pg_name (i := 3) sc__law_primes.nd rfl (Or.inl rfl)) (fun _ _ _ _ _ => (pts_one (pt_cmpR op_le (pe_op op_mul (pv 3) (pv 3)) (pv 2) (nomark _)))) (fun _ _ _ _ _ => (pe_cmpR op_ne (pe_op op_mod (pe_callTy call_int1 (by rfl) T.m_int (by decide +kernel) (pa_cons (pv 2) pa_nil)) (pv 3)) pe_int (nomark _)))) pa_nil)))
      (pss_one (ps_expr (pe_bm PySem.F.plainAttrs_list PySem.F.slot_list_append PySem.F.type_list_append mt_append (pv 1) (pa_cons (pv 2) pa_nil))))
      pss_nil)
      (pss_one (ps_set (i := 2) sc__law_primes.nd rfl (Or.inr rfl) (pe_op op_add (pv 2) pe_int)))))
      (pss_one (ps_ret (pv 1)))))), ?_⟩
  refine ⟨Nat.zero_le _, fun D hD => ?_⟩
  have hz : sizeLine = 16777216 := rfl
  refine ⟨fun m σ H' => ∃ (n : Nat) (o3 : Option V), m = 54 - n ∧ 2 ≤ n ∧ n ≤ 54 ∧ σ = [some (.int 16), some (.ref D), some (.int (n : Nat)), o3] ∧ Kp [] H H' ∧ H' D = some (.lst (nv (foundN n))), ⟨_, 2, none, rfl, Nat.le_refl _, by decide, rfl, Kp.new hD, upd_same⟩, ?_⟩
  rintro m σ H1 ⟨n, o3, rfl, n2, nB, rfl, k1, e1⟩
  refine ⟨_, rfl, D, _, rfl, .inl (sqL_of e1), _, rfl, _, _, rfl, rfl, _, rfl, ite2 (fun c => ?_) (fun c => ?_)⟩
  · have lt : n < 54 := by
      rw [List.length_map] at c
      have := of_decide_eq_true c
      rcases Nat.lt_or_eq_of_le nB with h | h
      · exact h
      · rw [h, len54] at this; omega
    refine ⟨fun σ H' => (∃ o3, σ = [some (.int 16), some (.ref D), some (.int (n + 1 : Nat)), o3]) ∧ Kp [] H H' ∧ H' D = some (.lst (nv (foundN (n + 1)))), fun σ' H' ⟨⟨o3, h1⟩, h3, h4⟩ => ⟨54 - (n + 1), by omega, n + 1, o3, rfl, by omega, lt, h1, h3, h4⟩, ?_⟩
    refine ⟨_, rfl, D, rfl, ⟨_, sqL_of e1⟩, fun D2 hD2 => ?_⟩
    refine lc_it (walk_list (K := K) (a := D) (xs := nv (foundN n))) (fun i H' => Kp [] H1 H' ∧ H' D2 = some (.lst ((tb n i).map V.bl))) ⟨Kp.new hD2, upd_same⟩ (fun i H' _ h => h.1.seqL (sqL_of e1)) ?_ ?_
    · rintro i y H2 H3 hi ⟨k, e⟩ ⟨rfl, hy⟩
      rw [List.length_map] at hi
      rw [nv_get hi] at hy
      cases hy
      have pl := found_lt (List.getElem_mem hi)
      have pg := found_ge (List.getElem_mem hi)
      refine ⟨rfl, ?_⟩
      refine ⟨_, rfl, _, rfl, _, _, rfl, rfl, .inl ⟨by omega, by omega⟩, _, rfl, _, _, rfl, rfl, _, rfl, ?_⟩
      have bnd := tb_len n i
      refine ite2 (fun c => ?_) (fun c => ?_)
      · have c' : (foundN n)[i] * (foundN n)[i] ≤ n := by
          have := of_decide_eq_true c
          exact_mod_cast this
        refine ⟨_, rfl, .inl ⟨_, rfl, _, rfl, _, _, rfl, rfl, (by show (0 : Int) < ((foundN n)[i] : Nat); omega), rfl, _, e, by rw [List.length_map, hz]; omega, k.upd hD2, ?_⟩⟩
        rw [upd_same, tb_yes hi c', List.map_append]
        have eb : (!decide (V.int ((n : Int) % ((foundN n)[i] : Nat)) = V.int 0)) = (n % (foundN n)[i] != 0) := by
          rw [Bool.eq_iff_iff, bne_iff_ne]
          simp only [Bool.not_eq_true', decide_eq_false_iff_not, V.int.injEq]
          omega
        rw [← eb]
        rfl
      · have c' : ¬ (foundN n)[i] * (foundN n)[i] ≤ n := fun z => c (decide_eq_true (by exact_mod_cast z))
        exact ⟨k, by rw [tb_no hi c']; exact e⟩
    · rintro H2 ⟨k, e⟩
      rw [List.length_map] at e
      refine ⟨D2, _, rfl, sqL_of e, ?_⟩
      rw [tb_all n lt]
      have k2 := k1.trans k
      have e2 := k.at e1
      refine ⟨_, rfl, ite2 (fun c => ?_) (fun c => ?_)⟩
      · have ef : foundN (n + 1) = foundN n ++ [n] := by
          rw [foundN, if_pos ⟨n2, c⟩]
        refine ⟨.ref D, rfl, .inl ⟨rfl, _, .inl (.inl e2)⟩, _, rfl, D, _, _, rfl, rfl, e2, ?_, ?_⟩
        · have := found_le n
          rw [List.length_map, hz]
          omega
        · exact ⟨_, rfl, _, _, rfl, rfl, ⟨_, by push_cast; rfl⟩, k2.upd hD, by rw [upd_same, ef, nv, nv, List.map_append]; rfl⟩
      · have ef : foundN (n + 1) = foundN n := by
          rw [foundN, if_neg fun z => c z.2]
        exact ⟨_, rfl, _, _, rfl, rfl, ⟨_, by push_cast; rfl⟩, k2, by rw [ef]; exact e2⟩
  · have e : n = 54 := by
      rcases Nat.lt_or_eq_of_le nB with h | h
      · exfalso
        rw [List.length_map] at c
        have h3 := less54 n h
        rw [len54] at h3
        exact c (decide_eq_true (by omega))
      · exact h
    subst e
    exact ⟨_, rfl, q H1 D k1 e1⟩
end
end SK
namespace SK
open PySem PySem.Spec PyProof.Rows L2 GxR SM
def lps (x : Str) : List Nat := if x = "sha384" ∨ x = "sha224" then cutL (foundN 54) (some 8) none else cutL (foundN 54) none (some 8)
def lws (x : Str) : List Int := ((lps x).map fun p => ((p : Nat) : Int)).map lrt
def lchV (x : Str) : List Int :=
  if x = "sha1" then [1732584193, 4023233417, 2562383102, 271733878, 3285377520]
  else if x = "sha256" then (lws x).map fun n => n / 2 ^ 32
  else if x = "sha224" then (lws x).map fun n => Builtin.bitAnd n 4294967295
  else lws x
theorem lch_eq : ∀ x ∈ nm5, lchV x = chV x := by decide +kernel
section
variable {P : Program} {w : World} {K : PySem.W.Frag} {mg : Str → Option Value} {base : Heap}
def spLChain (K : PySem.W.Frag) : Sp := fun vs H Q _ => ∃ x, vs = [.str x] ∧ x ∈ nm5 ∧ rTup K lchV x H Q
theorem ok_law_chain (T : Txt w K mg) (G__law_primes : FnR P w K mg base (L2.CX P w) 1 T.a__law_primes spLPrimes) (G__law_root : FnR P w K mg base (L2.CX P w) 1 T.a__law_root spRoot) :
    FnR P w K mg base (L2.CX P w) 3 T.a__law_chain (spLChain K) := by
  refine fn_mkR T.F__law_chain sc__law_chain T.b__law_chain (fun vs H Q E h => by obtain ⟨x, rfl, _⟩ := h; rfl) fun cdv A outer s H vs Q E hr h => ?_
  obtain ⟨x, rfl, hx, q⟩ := h
  refine ⟨_, (pss_cons (ps_if (pt_cmpR op_eq (pv 0) pe_str (nomark _))
      (pss_one (ps_ret (pe_tup (pa_cons pe_int (pa_cons pe_int (pa_cons pe_int (pa_cons pe_int (pa_cons pe_int pa_nil))))))))
      pss_nil)
      (pss_cons (ps_set (i := 1) sc__law_chain.nd rfl (Or.inl rfl) (SM.pe_callR G__law_primes (hr.mono (by decide)) (by rfl) T.g__law_primes T.F__law_primes.kp (SM.passE rfl rfl rfl rfl) (pa_cons pe_int pa_nil)))
      (pss_cons (ps_if (pt_cmpR op_in_seq (pv 0) (pe_tup (pa_cons pe_str (pa_cons pe_str pa_nil))) (by rfl))
      (pss_one (ps_set (i := 1) sc__law_chain.nd rfl (Or.inl rfl) (pe_slice sl_list (pv 1) po_none (po_some pe_int))))
      (pss_one (ps_set (i := 1) sc__law_chain.nd rfl (Or.inl rfl) (pe_slice sl_list (pv 1) (po_some pe_int) po_none))))
      (pss_cons (ps_setLc (i := 2) (own := [("prime", 3)]) (g := gName 3) (tt := tYes) (by rfl) sc__law_chain.nd rfl rfl (sw_true rfl rfl rfl (by decide +kernel)) (pi_list (pv 1)) (blkOk_by (own := [("prime", 3)]) (N := n__law_chain) (sc := defScope s__law_chain) (by decide +kernel)) (fun _ _ _ _ _ => pg_name (i := 3) sc__law_chain.nd rfl (Or.inl rfl)) (fun _ _ _ _ _ => pts_nil) (fun _ _ _ _ _ => (SM.pe_callR G__law_root (hr.mono (by decide)) (by rfl) T.g__law_root T.F__law_root.kp SM.pass0S (pa_cons (pv 3) (pa_cons pe_int pa_nil)))))
      (pss_cons (ps_if (pt_cmpR op_eq (pv 0) pe_str (nomark _))
      (pss_one (ps_setLc (i := 2) (own := [("word", 4)]) (g := gName 4) (tt := tYes) (by rfl) sc__law_chain.nd rfl rfl (sw_true rfl rfl rfl (by decide +kernel)) (pi_list (pv 2)) (blkOk_by (own := [("word", 4)]) (N := n__law_chain) (sc := defScope s__law_chain) (by decide +kernel)) (fun _ _ _ _ _ => pg_name (i := 4) sc__law_chain.nd rfl (Or.inl rfl)) (fun _ _ _ _ _ => pts_nil) (fun _ _ _ _ _ => (pe_op op_shr (pv 4) pe_int))))
      pss_nil)
      (pss_cons (ps_if (pt_cmpR op_eq (pv 0) pe_str (nomark _))
      (pss_one (ps_setLc (i := 2) (own := [("word", 4)]) (g := gName 4) (tt := tYes) (by rfl) sc__law_chain.nd rfl rfl (sw_true rfl rfl rfl (by decide +kernel)) (pi_list (pv 2)) (blkOk_by (own := [("word", 4)]) (N := n__law_chain) (sc := defScope s__law_chain) (by decide +kernel)) (fun _ _ _ _ _ => pg_name (i := 4) sc__law_chain.nd rfl (Or.inl rfl)) (fun _ _ _ _ _ => pts_nil) (fun _ _ _ _ _ => (pe_op op_and (pv 4) pe_int))))
      pss_nil)
      (pss_one (ps_ret (pe_callTy call_tuple_of (by rfl) T.m_tuple (by decide +kernel) (pa_cons (pv 2) pa_nil)))))))))), ?_⟩
  refine cutAt (fun σ H' => ¬ x = "sha1" ∧ σ = [some (.str x), none, none, none, none] ∧ H = H') (fun N hN => ⟨_, rfl, rfl, _, rfl, ite2 (fun c => ?_) (fun c => ?_)⟩) ?_
  · have e : x = "sha1" := V.str.inj (of_decide_eq_true c)
    subst e
    exact ⟨(by show 5 ≤ sizeLine; decide), fun p hp => q _ p (Kp.new hp) (sqT_of upd_same)⟩
  · exact hN _ _ ⟨fun e => c (by rw [e]; simp), rfl, rfl⟩
  rintro _ _ ⟨n1, rfl, rfl⟩
  -- primes_v
  refine cutAt (fun σ H' => (∃ D, σ = [some (.str x), some (.ref D), none, none, none] ∧ H' D = some (.lst (nv (foundN 54)))) ∧ Kp [] H H') (fun N hN => ?_) ?_
  · exact ⟨rfl, fun H' D k e => hN _ _ ⟨⟨D, rfl, e⟩, k⟩⟩
  rintro _ H1 ⟨⟨D, rfl, e1⟩, k1⟩
  refine cutAt (fun σ H' => (∃ D, σ = [some (.str x), some (.ref D), none, none, none] ∧ H' D = some (.lst (nv (lps x)))) ∧ Kp [] H H') (fun N hN => ?_) ?_
  · refine ⟨_, rfl, (by show 2 ≤ sizeLine; decide), fun p hp => ?_⟩
    have kp : Kp [] H1 (upd H1 p (.tup ((["sha256", "sha512"] : List Str).map V.str))) := Kp.new hp
    refine ⟨p, (["sha256", "sha512"] : List Str).map V.str, rfl, .inr (sqT_of upd_same), rfl, flat_strs _, ?_⟩
    rw [in_names]
    refine ⟨_, rfl, ite2 (fun c => ?_) (fun c => ?_)⟩
    · have e : lps x = cutL (foundN 54) none (some 8) := by
        have c' : x ∈ (["sha256", "sha512"] : List Str) := of_decide_eq_true c
        rcases (by simpa using c' : x = "sha256" ∨ x = "sha512") with rfl | rfl <;> decide +kernel
      refine ⟨_, rfl, 8, rfl, D, _, rfl, sqL_of (kp.at e1), fun l hl => ?_⟩
      rw [cutV_map, ← e]
      exact hN _ _ ⟨⟨l, rfl, upd_same⟩, (k1.trans kp).trans (Kp.new hl)⟩
    · have e : lps x = cutL (foundN 54) (some 8) none := by
        have c' : x ∉ (["sha256", "sha512"] : List Str) := fun z => c (decide_eq_true z)
        rcases nm5_cases hx with rfl | rfl | rfl | rfl | rfl
        · exact absurd rfl n1
        · decide +kernel
        · exact absurd (by decide +kernel) c'
        · decide +kernel
        · exact absurd (by decide +kernel) c'
      refine ⟨_, rfl, 8, rfl, ?_⟩
      dsimp only [tNoPart]
      refine ⟨D, _, rfl, sqL_of (kp.at e1), fun l hl => ?_⟩
      rw [cutV_map, ← e]
      exact hN _ _ ⟨⟨l, rfl, upd_same⟩, (k1.trans kp).trans (Kp.new hl)⟩
  clear e1 k1 H1
  rintro _ H1 ⟨⟨D, rfl, e1⟩, k1⟩
  have sm : (lps x).length ≤ 1000 := by
    have h1 := len54
    have h2 := cutL_le (foundN 54) (some 8) none
    have h3 := cutL_le (foundN 54) none (some 8)
    unfold lps
    split <;> omega
  have lps_lt : ∀ p ∈ lps x, p < 1000 := fun p hp => by
    have : p ∈ foundN 54 := by
      unfold lps cutL at hp
      split at hp
      · exact List.mem_of_mem_drop (List.mem_of_mem_take hp)
      · exact List.mem_of_mem_drop (List.mem_of_mem_take hp)
    have := found_lt this
    omega
  -- words
  refine cutAt (fun σ H' => (∃ E1 D o3, σ = [some (.str x), E1, some (.ref D), o3, none] ∧ H' D = some (.lst (iv (lws x)))) ∧ Kp [] H H') (fun N hN => ?_) ?_
  · refine ⟨_, rfl, D, rfl, ⟨_, sqL_of e1⟩, fun D2 hD2 => ?_⟩
    have e2 : nv (lps x) = iv ((lps x).map fun p => ((p : Nat) : Int)) := by rw [iv, nv, List.map_map]; rfl
    have hs : SqL K H1 D (iv ((lps x).map fun p => ((p : Nat) : Int))) := sqL_of (by rw [e1, e2])
    refine lc_it (walk_list (K := K) (a := D) (xs := iv ((lps x).map fun p => ((p : Nat) : Int)))) (fun i H' => Kp [] H1 H' ∧ H' D2 = some (.lst (iv ((((lps x).map fun p => ((p : Nat) : Int)).take i).map lrt)))) (lc_first hD2) (fun i H' _ h => h.1.seqL hs) ?_ ?_
    · rintro i y H2 H3 hi ⟨k, e⟩ ⟨rfl, hy⟩
      rw [List.length_map] at hi
      rw [iv_get hi] at hy
      cases hy
      have hi2 : i < (lps x).length := by simpa using hi
      refine ⟨rfl, yes_then ⟨_, rfl, (lps x)[i]'hi2, ?_, lps_lt _ (List.getElem_mem hi2), ?_⟩⟩
      · rw [List.getElem_map]
      · have z := lc_next (f := lrt) hi (by rw [List.length_map]; exact sm) hD2 k e (Kp.refl [] H3)
        rw [List.getElem_map] at z
        exact z
    · rintro H2 ⟨k, e⟩
      rw [List.length_map, List.take_length] at e
      exact hN _ _ ⟨⟨_, D2, _, rfl, e⟩, k1.trans k⟩
  clear e1 k1 H1 D
  rintro _ H1 ⟨⟨E1, D, o3, rfl, e1⟩, k1⟩
  have lsm : (lws x).length ≤ 1000 := by unfold lws; rw [List.length_map, List.length_map]; exact sm
  refine cutAt (fun σ H' => (∃ D o3 o4, σ = [some (.str x), E1, some (.ref D), o3, o4] ∧ H' D = some (.lst (iv (if x = "sha256" then (lws x).map (fun n => n / 2 ^ 32) else lws x)))) ∧ Kp [] H H') (fun N hN => ⟨_, rfl, rfl, _, rfl, ite2 (fun c => ?_) (fun c => ?_)⟩) ?_
  · have e : x = "sha256" := V.str.inj (of_decide_eq_true c)
    rw [if_pos e] at hN
    refine ⟨_, rfl, D, rfl, ⟨_, sqL_of e1⟩, fun D2 hD2 => ?_⟩
    refine lc_it (walk_list (K := K) (a := D) (xs := iv (lws x))) (fun i H' => Kp [] H1 H' ∧ H' D2 = some (.lst (iv (((lws x).take i).map fun n => n / 2 ^ 32)))) (lc_first hD2) (fun i H' _ h => h.1.seqL (sqL_of e1)) ?_ ?_
    · rintro i y H2 H3 hi ⟨k, e⟩ ⟨rfl, hy⟩
      rw [List.length_map] at hi
      rw [iv_get hi] at hy
      cases hy
      exact ⟨rfl, yes_then ⟨_, rfl, _, _, rfl, rfl, (by show (0 : Int) ≤ 32; decide), lc_next (f := fun n => n / 2 ^ 32) hi lsm hD2 k e (Kp.refl [] H3)⟩⟩
    · rintro H2 ⟨k, e⟩
      rw [List.length_map, List.take_length] at e
      exact hN _ _ ⟨⟨D2, _, _, rfl, e⟩, k1.trans k⟩
  · have e : ¬ x = "sha256" := fun e => c (by rw [e]; simp)
    rw [if_neg e] at hN
    exact hN _ _ ⟨⟨D, _, _, rfl, e1⟩, k1⟩
  clear e1 k1 H1 D
  rintro _ H1 ⟨⟨D, o3, o4, rfl, e1⟩, k1⟩
  refine cutAt (fun σ H' => (∃ D o3 o4, σ = [some (.str x), E1, some (.ref D), o3, o4] ∧ H' D = some (.lst (iv (lchV x)))) ∧ Kp [] H H') (fun N hN => ⟨_, rfl, rfl, _, rfl, ite2 (fun c => ?_) (fun c => ?_)⟩) ?_
  · have e : x = "sha224" := V.str.inj (of_decide_eq_true c)
    have n2 : ¬ x = "sha256" := by rw [e]; decide +kernel
    rw [if_neg n2] at e1
    have el : lchV x = (lws x).map fun n => Builtin.bitAnd n 4294967295 := by unfold lchV; rw [if_neg n1, if_neg n2, if_pos e]
    refine ⟨_, rfl, D, rfl, ⟨_, sqL_of e1⟩, fun D2 hD2 => ?_⟩
    refine lc_it (walk_list (K := K) (a := D) (xs := iv (lws x))) (fun i H' => Kp [] H1 H' ∧ H' D2 = some (.lst (iv (((lws x).take i).map fun n => Builtin.bitAnd n 4294967295)))) (lc_first hD2) (fun i H' _ h => h.1.seqL (sqL_of e1)) ?_ ?_
    · rintro i y H2 H3 hi ⟨k, e⟩ ⟨rfl, hy⟩
      rw [List.length_map] at hi
      rw [iv_get hi] at hy
      cases hy
      exact ⟨rfl, yes_then ⟨_, rfl, _, _, rfl, rfl, lc_next (f := fun n => Builtin.bitAnd n 4294967295) hi lsm hD2 k e (Kp.refl [] H3)⟩⟩
    · rintro H2 ⟨k, e⟩
      rw [List.length_map, List.take_length, ← el] at e
      exact hN _ _ ⟨⟨D2, _, _, rfl, e⟩, k1.trans k⟩
  · have e : ¬ x = "sha224" := fun e => c (by rw [e]; simp)
    refine hN _ _ ⟨⟨D, _, _, rfl, ?_⟩, k1⟩
    rw [e1]
    unfold lchV
    rw [if_neg n1, if_neg e]
  rintro _ H2 ⟨⟨D2, o5, o6, rfl, e2⟩, k2⟩
  exact ⟨_, rfl, D2, _, rfl, .inl ⟨sqL_of e2, fun l hl => q _ l (k2.trans (Kp.new hl)) (sqT_of upd_same)⟩⟩
end
end SK
namespace SK
open PySem PySem.Spec PyProof.Rows L2 GxR SM
theorem tyX_of {K : PySem.W.Frag} {H : Hp} {v : V} {t : String} (h : TyA K H v t) : TyX K H v (.type t) := by
  cases v with
  | ref a =>
    rcases h with ⟨rfl, xs, h⟩ | ⟨rfl, xs, h⟩
    · rcases h with (h | ⟨o, h⟩) | ⟨o, its, n, hk, hc, _⟩
      · exact .base (.lst h)
      · exact .base (.frz h)
      · exact .kList hk hc
    · rcases h with (h | ⟨o, h⟩) | ⟨o, its, n, hk, hc, _⟩
      · exact .base (.tup h)
      · exact .fTuple h
      · exact .kTuple hk hc
  | int i => cases h; exact .base (.int i)
  | bl b => cases h; exact .base (.bl b)
  | str x => cases h; exact .base (.str x)
  | non => cases h; exact .base .non
  | byt b => exact False.elim h
  | flt b => exact False.elim h
  | ty n => exact False.elim h
theorem kitT_of {K : PySem.W.Frag} {H : Hp} {v : V} {t : String} (h : TyA K H v t) : PySem.W.kitOne K (.type t) (.type "tuple") = some (t == "tuple") := by
  cases v with
  | ref a => rcases h with ⟨rfl, _⟩ | ⟨rfl, _⟩ <;> exact kit_ty (by decide +kernel)
  | int i => cases h; exact kit_ty (by decide +kernel)
  | bl b => cases h; exact kit_ty (by decide +kernel)
  | str x => cases h; exact kit_ty (by decide +kernel)
  | non => cases h; exact kit_ty (by decide +kernel)
  | byt b => exact False.elim h
  | flt b => exact False.elim h
  | ty n => exact False.elim h
abbrev ivD (l : List Int) : PyData := .tuple (l.map PyData.int)
theorem dp_iv {K : PySem.W.Frag} {H : Hp} {a : Addr} {l : List Int} (h : SqT K H a (iv l)) : Dp K H (.ref a) (ivD l) := by
  refine .tup h ?_
  clear h
  induction l with
  | nil => exact .nil
  | cons n l ih => exact .cons (.int _) ih
theorem eqv_iv (l : List Int) : PyData.eqv (ivD l) (ivD l) = true := by
  rw [PyData.eqv]
  induction l with
  | nil => rfl
  | cons n l ih =>
    rw [List.map_cons, PyData.eqvAll, ih, PyData.eqv]
    simp
theorem shaped_iv (l : List Int) : SeqAt.shaped (ivD l) = true := by
  have h := PySem.W.shaped_ints l
  have h1 : (PyData.canLay0 (.list (l.map PyData.int)) && decide (PyData.depth (.list (l.map PyData.int)) ≤ 64)) = true := h
  show (PyData.canLay0 (.tuple (l.map PyData.int)) && decide (PyData.depth (.tuple (l.map PyData.int)) ≤ 64)) = true
  simp only [PyData.canLay0, PyData.depth] at h1 ⊢
  exact h1
section
variable {P : Program} {w : World} {K : PySem.W.Frag} {mg : Str → Option Value} {base : Heap}
def spSame (K : PySem.W.Frag) : Sp := fun vs H Q _ => ∃ (a b : Addr) (l : List Int), vs = [.ref a, .ref b] ∧ SqT K H a (iv l) ∧ SqT K H b (iv l) ∧ l.length ≤ 1000 ∧ ∀ H', Kp [] H H' → Q (.bl true) H'
theorem ok_law_same (T : Txt w K mg) : FnR P w K mg base (L2.CX P w) 1 T.a__law_same (spSame K) := by
  refine fn_mkR T.F__law_same sc__law_same T.b__law_same (fun vs H Q E h => by obtain ⟨a, b, l, rfl, _⟩ := h; rfl) fun cdv A outer s H vs Q E hr h => ?_
  obtain ⟨a, b, l, rfl, ha, hb, hl, q⟩ := h
  refine ⟨_, (pss_cons (ps_if (PW.pt (pw_or (pt_not (pt_val (pe_callB call_isi (by rfl) T.m_isinstance (by decide +kernel) (pa_cons (pv 0) (pa_cons (pe_bltn (v := .ty "tuple") (by rfl) T.m_tuple (by decide +kernel) rfl) pa_nil))))) (pw_or1 (pt_cmpR op_ne (pe_callB call_len_seq (by rfl) T.m_len (by decide +kernel) (pa_cons (pv 0) pa_nil)) (pe_callB call_len_seq (by rfl) T.m_len (by decide +kernel) (pa_cons (pv 1) pa_nil)) (nomark _)))))
      (pss_one (ps_ret pe_bl))
      pss_nil)
      (pss_one (ps_ret (pe_and (pe_callB (cr_all rfl) (by rfl) T.m_all (by decide +kernel) (pa_cons (pe_lc (own := [("n", 2)]) (g := gName 2) (tt := tYes) (by rfl) sc__law_same.nd (pi_tup (pv 0)) (blkOk_by (own := [("n", 2)]) (N := n__law_same) (sc := defScope s__law_same) (by decide +kernel)) (fun _ _ _ _ _ => pg_name (i := 2) sc__law_same.nd rfl (Or.inl rfl)) (fun _ _ _ _ _ => pts_nil) (fun _ _ _ _ _ => (pe_and (pe_callB (id := "isinstance") (show CallR _ (.builtin "isinstance") (rIsi K) from call_isi) (by rfl) T.m_isinstance (by decide +kernel) (pa_cons (pv 2) (pa_cons (pe_bltn (v := .ty "int") (by rfl) T.m_int (by decide +kernel) rfl) pa_nil))) (pe_one (pe_not (pe_callB (id := "isinstance") (show CallR _ (.builtin "isinstance") (rIsi K) from call_isi) (by rfl) T.m_isinstance (by decide +kernel) (pa_cons (pv 2) (pa_cons (pe_bltn (v := .ty "bool") (by rfl) T.m_bool (by decide +kernel) rfl) pa_nil)))))))) pa_nil)) (pe_one (pe_cmpR (op_eqD hr.units) (pv 0) (pv 1) (nomark _))))))), ?_⟩
  refine ⟨_, rfl, _, _, .type "tuple", .type "tuple", true, rfl, .ty _, tyX_of (t := "tuple") (.inr ⟨rfl, _, ha⟩), kit_ty (by decide +kernel), true, rfl, ite2 (fun c => by cases c) (fun _ => ?_)⟩
  refine ⟨_, rfl, a, _, rfl, .inr ha, _, rfl, b, _, rfl, .inr hb, rfl, _, rfl, ite2 (fun c => absurd c (by simp)) (fun _ => ?_)⟩
  refine ⟨_, rfl, a, rfl, ⟨_, ha⟩, fun D hD => ?_⟩
  have hz : sizeLine = 16777216 := rfl
  refine lc_it (walk_tup (K := K) (a := a) (xs := iv l)) (fun i H' => Kp [] H H' ∧ H' D = some (.lst ((List.replicate i true).map V.bl))) ⟨Kp.new hD, upd_same⟩ (fun i H' _ h => h.1.seqT ha) ?_ ?_
  · rintro i y H2 H3 hi ⟨k, e⟩ ⟨rfl, hy⟩
    rw [List.length_map] at hi
    rw [iv_get hi] at hy
    cases hy
    refine ⟨rfl, yes_then ?_⟩
    refine ⟨_, rfl, _, _, .type "int", .type "int", true, rfl, .ty _, tyX_of (t := "int") rfl, kit_ty (by decide +kernel), true, rfl, iteT ?_⟩
    refine ⟨_, rfl, _, _, .type "int", .type "bool", false, rfl, .ty _, tyX_of (t := "int") rfl, kit_ty (by decide +kernel), ?_⟩
    refine ⟨false, rfl, _, e, by rw [List.length_map, List.length_replicate, hz]; omega, k.upd hD, ?_⟩
    rw [upd_same, List.replicate_succ', List.map_append]
    rfl
  · rintro H2 ⟨k, e⟩
    refine ⟨D, _, rfl, sqL_of e, ?_⟩
    rw [List.length_map]
    have ea : (List.replicate l.length true).all id = true := by simp
    rw [ea]
    refine ⟨true, rfl, iteT ?_⟩
    refine ⟨_, rfl, _, rfl, _, _, dp_iv (k.seqT ha), dp_iv (k.seqT hb), shaped_iv _, shaped_iv _, ?_⟩
    rw [eqv_iv]
    exact q H2 k
end
end SK
namespace SK
open PySem PySem.Spec PyProof.Rows L2 GxR SM
abbrev bad10 : List Str := ["", "md5", "sha", "sha0", "sha3", "blake2b", "sha512t", "sha2", "hmac", "1"]
abbrev tails : List Str := ["0", " ", "-", "6"]
theorem bad10_bad : ∀ y ∈ bad10, y ∉ nm5 := by decide +kernel
theorem up_bad : ∀ x ∈ nm5, Txt.upper x ∉ nm5 := by decide +kernel
theorem tail_bad : ∀ x ∈ nm5, ∀ y ∈ tails, x ++ y ∉ nm5 := by decide +kernel
theorem head_bad : ∀ x ∈ nm5, (" " : Str) ++ x ∉ nm5 := by decide +kernel
theorem cut_bad : ∀ x ∈ nm5, cutS x none (some (-1)) ∉ nm5 := by decide +kernel
theorem mid_bad : ∀ x ∈ nm5, cutS x none (some 3) ++ "-" ++ cutS x (some 3) none ∉ nm5 := by decide +kernel
theorem nm_len : ∀ x ∈ nm5, x.length ≤ 6 ∧ (cutS x none (some 3)).length ≤ 6 ∧ (cutS x none (some 3) ++ "-").length ≤ 6 ∧ (cutS x (some 3) none).length ≤ 6 := by decide +kernel
theorem tail_len : ∀ y ∈ tails, y.length ≤ 6 := by decide +kernel
theorem str_at {l : List Str} {j : Int} (h0 : 0 ≤ j) (h1 : j < l.length) : ∃ x, x ∈ l ∧ atI (l.map V.str) j = some (.str x) := by
  obtain ⟨i, rfl⟩ := Int.eq_ofNat_of_zero_le h0
  have hi : i < l.length := by omega
  exact ⟨l[i], List.getElem_mem hi, atI_nat (by rw [List.getElem?_map, List.getElem?_eq_getElem hi]; rfl)⟩
/-- what is written nowhere stands, but M -/
theorem Kp.seqLM {K : PySem.W.Frag} {H H' : Hp} {M D p : Addr} {xs : List V} (k : Kp [M] H H') (hd : Dms H M D) (h : SqL K H p xs) : SqL K H' p xs := by
  by_cases e : p = M
  · subst e
    obtain ⟨n, ds, e1, _⟩ := hd
    rcases h with (h | ⟨o, h⟩) | h
    · rw [e1] at h; cases h
    · rw [e1] at h; cases h
    · exact .inr h
  · exact k.seqL h (by simpa using e)
section
variable {P : Program} {w : World} {K : PySem.W.Frag} {mg : Str → Option Value} {base : Heap}
def spWrongOf : Sp := fun vs H Q _ => ∃ M D, vs = [.ref M] ∧ Dms H M D ∧ ∀ H' y, y ∉ nm5 → Kp [M] H H' → Dms H' M D → Q (.str y) H'
theorem ok_law_wrong (T : Txt w K mg) (G__law_names : FnR P w K mg base (L2.CX P w) 1 T.a__law_names (spNames K)) (G__law_take : FnR P w K mg base (L2.CX P w) 1 T.a__law_take (spTake K)) :
    FnR P w K mg base (L2.CX P w) 3 T.a__law_wrong spWrongOf := by
  refine fn_mkR T.F__law_wrong sc__law_wrong T.b__law_wrong (fun vs H Q E h => by obtain ⟨M, D, rfl, _⟩ := h; rfl) fun cdv A outer s H vs Q E hr h => ?_
  obtain ⟨M, D, rfl, hd, q⟩ := h
  refine ⟨_, (pss_cons (ps_set (i := 1) sc__law_wrong.nd rfl (Or.inl rfl) (pe_ix ix_list (SM.pe_callR0 G__law_names (hr.mono (by decide)) (by rfl) T.g__law_names T.F__law_names.kp (SM.passE rfl rfl rfl rfl)) (SM.pe_callR G__law_take (hr.mono (by decide)) (by rfl) T.g__law_take T.F__law_take.kp (SM.passE rfl rfl rfl rfl) (pa_cons (pv 0) (pa_cons pe_int pa_nil))) (fun _ _ => rfl)))
      (pss_cons (ps_set (i := 2) sc__law_wrong.nd rfl (Or.inl rfl) (SM.pe_callR G__law_take (hr.mono (by decide)) (by rfl) T.g__law_take T.F__law_take.kp (SM.passE rfl rfl rfl rfl) (pa_cons (pv 0) (pa_cons pe_int pa_nil))))
      (pss_cons (ps_if (pt_cmpR op_eq (pv 2) pe_int (nomark _))
      (pss_one (ps_ret (pe_ix ix_list (pe_lst (pa_cons pe_str (pa_cons pe_str (pa_cons pe_str (pa_cons pe_str (pa_cons pe_str (pa_cons pe_str (pa_cons pe_str (pa_cons pe_str (pa_cons pe_str (pa_cons pe_str pa_nil))))))))))) (SM.pe_callR G__law_take (hr.mono (by decide)) (by rfl) T.g__law_take T.F__law_take.kp (SM.passE rfl rfl rfl rfl) (pa_cons (pv 0) (pa_cons pe_int pa_nil))) (fun _ _ => rfl))))
      pss_nil)
      (pss_cons (ps_if (pt_cmpR op_eq (pv 2) pe_int (nomark _))
      (pss_one (ps_ret (pe_upper (pv 1))))
      pss_nil)
      (pss_cons (ps_if (pt_cmpR op_eq (pv 2) pe_int (nomark _))
      (pss_one (ps_ret (pe_op op_add_str (pv 1) (pe_ix ix_list (pe_lst (pa_cons pe_str (pa_cons pe_str (pa_cons pe_str (pa_cons pe_str pa_nil))))) (SM.pe_callR G__law_take (hr.mono (by decide)) (by rfl) T.g__law_take T.F__law_take.kp (SM.passE rfl rfl rfl rfl) (pa_cons (pv 0) (pa_cons pe_int pa_nil))) (fun _ _ => rfl)))))
      pss_nil)
      (pss_cons (ps_if (pt_cmpR op_eq (pv 2) pe_int (nomark _))
      (pss_one (ps_ret (pe_op op_add_str pe_str (pv 1))))
      pss_nil)
      (pss_cons (ps_if (pt_cmpR op_eq (pv 2) pe_int (nomark _))
      (pss_one (ps_ret (pe_ifExp (pt_cmpR op_ne (pv 1) pe_str (nomark _)) (pe_slice sl_str (pv 1) po_none (po_some (pe_un un_neg pe_int))) pe_str)))
      pss_nil)
      (pss_one (ps_ret (pe_op op_add_str (pe_op op_add_str (pe_slice sl_str (pv 1) po_none (po_some pe_int)) pe_str) (pe_slice sl_str (pv 1) (po_some pe_int) po_none))))))))))), ?_⟩
  have hz : sizeLine = 16777216 := rfl
  -- name
  refine cutAt (fun σ H' => (∃ x, x ∈ nm5 ∧ σ = [some (.ref M), some (.str x), none]) ∧ Kp [M] H H' ∧ Dms H' M D) (fun N hN => ?_) ?_
  · refine ⟨rfl, fun H1 p k1 hp => ?_⟩
    have d1 := hd.kp k1
    refine ⟨.ref M, rfl, M, D, 5, rfl, by decide, d1, fun H2 j j0 j1 k2 d2 => ?_⟩
    obtain ⟨x, hx, e⟩ := str_at (l := nm5) j0 j1
    exact ⟨p, _, j, _, rfl, rfl, Kp.seqLM k2 d1 hp, e, hN _ _ ⟨⟨x, hx, rfl⟩, k1.of0.trans k2, d2⟩⟩
  rintro _ H1 ⟨⟨x, hx, rfl⟩, k1, d1⟩
  obtain ⟨l1, l2, l3, l4⟩ := nm_len x hx
  -- choice
  refine ⟨.ref M, rfl, M, D, 6, rfl, by decide, d1, fun H2 c c0 c1 k2 d2 => ?_⟩
  have k12 := k1.trans k2
  refine ⟨_, rfl, rfl, _, rfl, ite2 (fun _ => ?_) (fun _ => ?_)⟩
  · refine ⟨(by show 10 ≤ sizeLine; decide), fun p hp => ?_⟩
    have kp : Kp [] H2 (upd H2 p (.lst (bad10.map V.str))) := Kp.new hp
    refine ⟨.ref M, rfl, M, D, 10, rfl, by decide, d2.kp kp, fun H3 j j0 j1 k3 d3 => ?_⟩
    obtain ⟨y, hy, e⟩ := str_at (l := bad10) j0 j1
    exact ⟨p, _, j, _, rfl, rfl, Kp.seqLM k3 (d2.kp kp) (sqL_of upd_same), e, q _ y (bad10_bad y hy) ((k12.trans kp.of0).trans k3) d3⟩
  refine ⟨_, rfl, rfl, _, rfl, ite2 (fun _ => ?_) (fun _ => ?_)⟩
  · exact ⟨_, rfl, ⟨x, rfl⟩, x, rfl, rfl, by omega, q _ _ (up_bad x hx) k12 d2⟩
  refine ⟨_, rfl, rfl, _, rfl, ite2 (fun _ => ?_) (fun _ => ?_)⟩
  · refine ⟨_, rfl, (by show 4 ≤ sizeLine; decide), fun p hp => ?_⟩
    have kp : Kp [] H2 (upd H2 p (.lst (tails.map V.str))) := Kp.new hp
    refine ⟨.ref M, rfl, M, D, 4, rfl, by decide, d2.kp kp, fun H3 j j0 j1 k3 d3 => ?_⟩
    obtain ⟨y, hy, e⟩ := str_at (l := tails) j0 j1
    have ly := tail_len y hy
    exact ⟨p, _, j, _, rfl, rfl, Kp.seqLM k3 (d2.kp kp) (sqL_of upd_same), e, _, _, rfl, rfl, by omega, q _ _ (tail_bad x hx y hy) ((k12.trans kp.of0).trans k3) d3⟩
  refine ⟨_, rfl, rfl, _, rfl, ite2 (fun _ => ?_) (fun _ => ?_)⟩
  · have l0 : (" " : Str).length = 1 := by decide +kernel
    exact ⟨_, rfl, _, _, rfl, rfl, by omega, q _ _ (head_bad x hx) k12 d2⟩
  refine ⟨_, rfl, rfl, _, rfl, ite2 (fun _ => ?_) (fun _ => ?_)⟩
  · refine ⟨_, rfl, rfl, _, rfl, ite2 (fun _ => ?_) (fun _ => ?_)⟩
    · refine ⟨_, rfl, _, rfl, _, rfl, _, rfl, by omega, q _ _ (cut_bad x hx) k12 d2⟩
    · exact q _ _ (by decide +kernel) k12 d2
  have l0 : ("-" : Str).length = 1 := by decide +kernel
  refine ⟨_, rfl, 3, rfl, _, rfl, by omega, _, _, rfl, rfl, by omega, _, rfl, 3, rfl, ?_⟩
  dsimp only [tNoPart]
  exact ⟨_, rfl, by omega, _, _, rfl, rfl, by omega, q _ _ (mid_bad x hx) k12 d2⟩
end
end SK
namespace SK
open PySem PySem.Spec PyProof.Rows L2 GxR SM
section
variable {P : Program} {w : World} {K : PySem.W.Frag} {mg : Str → Option Value} {base : Heap}
def spRefuse : Sp := fun vs H Q _ => ∃ (x : Str) (i : Int), vs = [.str x, .int i] ∧ x ∉ nm5 ∧ ∀ H', Kp [] H H' → Q (.bl true) H'
theorem chE (T : Txt w K mg) : PySem.W.exmOne K (.ref T.a_ChoiceError) (.ref T.a_SaltmillError) = some true := PySem.W.exm_ref T.bP_SaltmillError T.hd_SaltmillError T.tP_SaltmillError T.sub_ChoiceError_SaltmillError
theorem ch_ne (T : Txt w K mg) : T.a_ChoiceError ≠ T.a_LengthError := fun e => by
  have h1 := T.sub_ChoiceError_LengthError
  rw [← e, T.sub_ChoiceError_ChoiceError] at h1
  cases h1
/-- the suite of _law_refused, for a ChoiceError -/
abbrev tsRef (T : Txt w K mg) : Addr → Value → Option Addr → TS := (fun a cls d => fun D σ H => (cls = .ref T.a_ChoiceError ∧ d = none) ∧ tRet (tAndV (tCB (rIsE K T.a_ChoiceError a) (tCons (tVar 2) (tCons (tC (.ref T.a_ChoiceError)) tNil))) (tAndV (tCB (rIsE K T.a_ChoiceError a) (tCons (tVar 2) (tCons (tC (.ty "ValueError")) tNil))) (tNotV (tCB (rIsE K T.a_ChoiceError a) (tCons (tVar 2) (tCons (tC (.ref T.a_LengthError)) tNil)))))) D σ H)
theorem ok_law_refused (T : Txt w K mg) (G_block_length : FnR P w K mg base (L2.CX P w) 2 T.a_block_length (spNamed T.a_ChoiceError (rNum blLen))) (G_digest_size : FnR P w K mg base (L2.CX P w) 2 T.a_digest_size (spNamed T.a_ChoiceError (rNum dgLen)))
    (G_first_chain : FnR P w K mg base (L2.CX P w) 8 T.a_first_chain (spNamed T.a_ChoiceError fun x H Q => TabG H T.P_primes ∧ rTup K chV x H Q)) (G_compress : FnR P w K mg base (L2.CX P w) 2 T.a_compress (spWrong 3 0 T.a_ChoiceError))
    (G_digest : FnR P w K mg base (L2.CX P w) 2 T.a_digest (spWrong 2 0 T.a_ChoiceError)) (G_Digest : FnOk P w K mg base (L2.CX P w) 2 T.a_Digest___init__ T.d_Digest___init__ ["self", "name"] (spWrong 2 1 T.a_ChoiceError)) :
    FnR P w K mg base (L2.CX P w) 10 T.a__law_refused spRefuse := by
  refine fn_mkR T.F__law_refused sc__law_refused T.b__law_refused (fun vs H Q E h => by obtain ⟨x, i, rfl, _⟩ := h; rfl) fun cdv A outer s H vs Q E hr h => ?_
  obtain ⟨x, i, rfl, nx, q⟩ := h
  refine ⟨_, (pss_cons (ps_try_as (i := 2) (ts := (tsRef T)) rfl rfl sc__law_refused.nd rfl rfl ⟨rfl, by decide, .inl T.g_SaltmillError⟩ (takes_of rfl rfl rfl rfl)
      (fun W pn xe tk own_ => (pss_one (ps_if (pt_cmpR op_eq (pv 1) pe_int (nomark _))
      (pss_one (ps_expr (SM.pe_callR G_block_length (hr.mono (by decide)) (by rfl) T.g_block_length T.F_block_length.kp (fun σ => passAt tk σ) (pa_cons (pv 0) pa_nil))))
      (pss_one (ps_if (pt_cmpR op_eq (pv 1) pe_int (nomark _))
      (pss_one (ps_expr (SM.pe_callR G_digest_size (hr.mono (by decide)) (by rfl) T.g_digest_size T.F_digest_size.kp (fun σ => passAt tk σ) (pa_cons (pv 0) pa_nil))))
      (pss_one (ps_if (pt_cmpR op_eq (pv 1) pe_int (nomark _))
      (pss_one (ps_expr (SM.pe_callR G_first_chain (hr.mono (by decide)) (by rfl) T.g_first_chain T.F_first_chain.kp (fun σ => passAt tk σ) (pa_cons (pv 0) pa_nil))))
      (pss_one (ps_if (pt_cmpR op_eq (pv 1) pe_int (nomark _))
      (pss_one (ps_expr (SM.pe_callR G_compress (hr.mono (by decide)) (by rfl) T.g_compress T.F_compress.kp (fun σ => passAt tk σ) (pa_cons (pv 0) (pa_cons (pe_tup pa_nil) (pa_cons (pe_tup (pa_cons pe_int pa_nil)) pa_nil))))))
      (pss_one (ps_if (pt_cmpR op_eq (pv 1) pe_int (nomark _))
      (pss_one (ps_expr (SM.pe_callR G_digest (hr.mono (by decide)) (by rfl) T.g_digest T.F_digest.kp (fun σ => passAt tk σ) (pa_cons (pv 0) (pa_cons pe_non pa_nil)))))
      (pss_one (ps_expr (pe_make T.M_Digest G_Digest (hr.mono (by decide)) (by rfl) T.g_Digest T.b_Digest___init__ .nil (SM.passes_all (n := 3) tk rfl) (pa_cons (pv 0) pa_nil)))))))))))))))
      (fun a oe cls d pn hz hf => (SM.pss_when (p := cls = .ref T.a_ChoiceError ∧ d = none) (fun hcd => by obtain ⟨rfl, rfl⟩ := hcd; exact pss_one (ps_ret (pe_and (pe_callB (call_isE T.X_ChoiceError hz hf) (by rfl) T.m_isinstance (by decide +kernel) (pa_cons (pv 2) (pa_cons (pe_glob rfl T.g_ChoiceError rfl) pa_nil))) (pe_and (pe_callB (call_isE T.X_ChoiceError hz hf) (by rfl) T.m_isinstance (by decide +kernel) (pa_cons (pv 2) (pa_cons (pe_bltn (v := .ty "ValueError") (by rfl) T.m_ValueError (by decide +kernel) rfl) pa_nil))) (pe_one (pe_not (pe_callB (call_isE T.X_ChoiceError hz hf) (by rfl) T.m_isinstance (by decide +kernel) (pa_cons (pv 2) (pa_cons (pe_glob rfl T.g_LengthError rfl) pa_nil))))))))))))
      (pss_one (ps_ret pe_bl))), ?_⟩
  refine cutAt (fun _ _ => False) (fun N hN => ?_) (fun _ _ z => z.elim)
  -- what the suite makes of a ChoiceError
  have caught : ∀ (D : Ends) (σ : L2.St) (H' : Hp), D.rt = Q → σ.length = 3 → Kp [] H H' → wAs K (.ref T.a_SaltmillError) 2 (tsRef T) (fun cls d _ H => E cls d H) D (.ref T.a_ChoiceError) none σ H' := fun D σ H' hD hl k => by
    refine ⟨true, chE T, fun _ a ha => ⟨⟨rfl, rfl⟩, ?_⟩, fun z => by cases z⟩
    have hs3 : (σ.set 2 (some (.ref a)))[2]? = some (some (.ref a)) := List.getElem?_set_self (by omega)
    refine ⟨_, hs3, .ref T.a_ChoiceError, .ref T.a_ChoiceError, true, rfl, fun u h => h, kit_own T.hd_ChoiceError T.tP_ChoiceError T.sub_ChoiceError_ChoiceError (fun _ => rfl), true, rfl, iteT ?_⟩
    refine ⟨_, hs3, .ty "ValueError", .type "ValueError", true, rfl, fun u h => h, T.kit_V, true, rfl, iteT ?_⟩
    refine ⟨_, hs3, .ref T.a_LengthError, .ref T.a_LengthError, false, rfl, fun u h => h, kit_own T.hd_LengthError T.tP_LengthError T.sub_ChoiceError_LengthError (fun e => absurd e (ch_ne T)), false, rfl, ?_⟩
    rw [hD]
    exact q H' k
  refine ⟨_, rfl, rfl, _, rfl, ite2 (fun _ => ?_) (fun _ => ?_)⟩
  · exact ⟨_, rfl, x, rfl, fun y => absurd y nx, fun _ H' k => caught _ _ H' rfl rfl k⟩
  refine ⟨_, rfl, rfl, _, rfl, ite2 (fun _ => ?_) (fun _ => ?_)⟩
  · exact ⟨_, rfl, x, rfl, fun y => absurd y nx, fun _ H' k => caught _ _ H' rfl rfl k⟩
  refine ⟨_, rfl, rfl, _, rfl, ite2 (fun _ => ?_) (fun _ => ?_)⟩
  · exact ⟨_, rfl, x, rfl, fun y => absurd y nx, fun _ H' k => caught _ _ H' rfl rfl k⟩
  refine ⟨_, rfl, rfl, _, rfl, ite2 (fun _ => ?_) (fun _ => ?_)⟩
  · refine ⟨_, rfl, (by show 0 ≤ sizeLine; decide), fun p hp => ⟨(by show 1 ≤ sizeLine; decide), fun p2 hp2 => ?_⟩⟩
    exact ⟨rfl, x, rfl, nx, fun H' k => caught _ _ H' rfl rfl (((Kp.new hp).trans (Kp.new hp2)).trans k)⟩
  refine ⟨_, rfl, rfl, _, rfl, ite2 (fun _ => ?_) (fun _ => ?_)⟩
  · exact ⟨_, rfl, rfl, x, rfl, nx, fun H' k => caught _ _ H' rfl rfl k⟩
  refine ⟨_, rfl, fun o dx ho hdx ne => ?_⟩
  have k1 : Kp [] H (upd (upd H dx (.own o)) o (.ins T.a_Digest dx [])) := (Kp.new hdx).upd ho
  exact ⟨rfl, x, rfl, nx, fun H' k σ hl => caught _ σ H' rfl hl (k1.trans k)⟩
end
end SK
namespace SK
open PySem PySem.Spec PyProof.Rows L2 GxR SM
theorem merge_m (D : Addr) (n : Int) : mergeK [] (mKv D n) = mKv D n := by
  have h : ¬ ("at" : Str) = "draws" := fun e => k_ne e.symm
  simp [mergeK, mKv, putK, k_ne]
theorem ch_len : ∀ x ∈ nm5, (chV x).length ≤ 1000 := by decide +kernel
section
variable {P : Program} {w : World} {K : PySem.W.Frag} {mg : Str → Option Value} {base : Heap}
def spLaw (K : PySem.W.Frag) (P : Addr) : Sp := fun vs H Q _ => ∃ (a : Addr) (ns : List Int), vs = [.ref a] ∧ SqL K H a (ns.map V.int) ∧ ns.length ≤ 63 ∧ TabG H P ∧ ∀ H', Q (.bl true) H'
theorem ok_law (T : Txt w K mg) (G__law_draws : FnR P w K mg base (L2.CX P w) 1 T.a__law_draws (spDraws K)) (G__law_names : FnR P w K mg base (L2.CX P w) 1 T.a__law_names (spNames K)) (G__law_take : FnR P w K mg base (L2.CX P w) 1 T.a__law_take (spTake K))
    (G_block_length : FnR P w K mg base (L2.CX P w) 2 T.a_block_length (spNamed T.a_ChoiceError (rNum blLen))) (G_digest_size : FnR P w K mg base (L2.CX P w) 2 T.a_digest_size (spNamed T.a_ChoiceError (rNum dgLen)))
    (G__law_block : FnR P w K mg base (L2.CX P w) 1 T.a__law_block (spOf blLen)) (G__law_size : FnR P w K mg base (L2.CX P w) 1 T.a__law_size (spOf dgLen))
    (G_first_chain : FnR P w K mg base (L2.CX P w) 8 T.a_first_chain (spNamed T.a_ChoiceError fun x H Q => TabG H T.P_primes ∧ rTup K chV x H Q)) (G__law_chain : FnR P w K mg base (L2.CX P w) 3 T.a__law_chain (spLChain K))
    (G__law_same : FnR P w K mg base (L2.CX P w) 1 T.a__law_same (spSame K)) (G__law_wrong : FnR P w K mg base (L2.CX P w) 3 T.a__law_wrong spWrongOf) (G__law_refused : FnR P w K mg base (L2.CX P w) 10 T.a__law_refused spRefuse) :
    FnOk P w K mg base (L2.CX P w) 12 T.a_law T.d_law ["script"] (spLaw K T.P_primes) := by
  refine fn_mkO T.F_law sc_law (fun vs H Q E h => by obtain ⟨a, ns, rfl, _⟩ := h; rfl) fun cdv A outer s H vs Q E hr h => ?_
  obtain ⟨a, ns, rfl, ha, hl, hP, q⟩ := h
  refine ⟨_, (pss_cons (ps_set (i := 1) sc_law.nd rfl (Or.inl rfl) (pe_disp (pps_cons pe_str (SM.pe_callR G__law_draws (hr.mono (by decide)) (by rfl) T.g__law_draws T.F__law_draws.kp (SM.passE rfl rfl rfl rfl) (pa_cons (pv 0) pa_nil)) (pps_cons pe_str pe_int pps_nil)) (by rfl) (by rfl) (by simp) (by decide)))
      (pss_cons (ps_set (i := 2) sc_law.nd rfl (Or.inl rfl) (pe_ix ix_list (SM.pe_callR0 G__law_names (hr.mono (by decide)) (by rfl) T.g__law_names T.F__law_names.kp (SM.passE rfl rfl rfl rfl)) (SM.pe_callR G__law_take (hr.mono (by decide)) (by rfl) T.g__law_take T.F__law_take.kp (SM.passE rfl rfl rfl rfl) (pa_cons (pv 1) (pa_cons pe_int pa_nil))) (fun _ _ => rfl)))
      (pss_cons (ps_for (passes_of rfl) rfl (pi_list (pe_lst (pa_cons (pe_tup (pa_cons (SM.pe_callR G_block_length (hr.mono (by decide)) (by rfl) T.g_block_length T.F_block_length.kp (SM.passE rfl rfl rfl rfl) (pa_cons (pv 2) pa_nil)) (pa_cons (SM.pe_callR G__law_block (hr.mono (by decide)) (by rfl) T.g__law_block T.F__law_block.kp (SM.passE rfl rfl rfl rfl) (pa_cons (pv 2) pa_nil)) pa_nil))) (pa_cons (pe_tup (pa_cons (SM.pe_callR G_digest_size (hr.mono (by decide)) (by rfl) T.g_digest_size T.F_digest_size.kp (SM.passE rfl rfl rfl rfl) (pa_cons (pv 2) pa_nil)) (pa_cons (SM.pe_callR G__law_size (hr.mono (by decide)) (by rfl) T.g__law_size T.F__law_size.kp (SM.passE rfl rfl rfl rfl) (pa_cons (pv 2) pa_nil)) pa_nil))) pa_nil)))) (pg_tup rfl (pgs_cons (pg_name (i := 3) sc_law.nd rfl (Or.inl rfl)) (pgs_cons (pg_name (i := 4) sc_law.nd rfl (Or.inl rfl)) pgs_nil)))
      (pss_one (ps_if (PW.pt (pw_or (pt_not (pt_val (pe_callB call_isi (by rfl) T.m_isinstance (by decide +kernel) (pa_cons (pv 3) (pa_cons (pe_bltn (v := .ty "int") (by rfl) T.m_int (by decide +kernel) rfl) pa_nil))))) (pw_or (pt_val (pe_callB call_isi (by rfl) T.m_isinstance (by decide +kernel) (pa_cons (pv 3) (pa_cons (pe_bltn (v := .ty "bool") (by rfl) T.m_bool (by decide +kernel) rfl) pa_nil)))) (pw_or1 (pt_cmpR op_ne (pv 3) (pv 4) (nomark _))))))
      (pss_one (ps_ret pe_bl))
      pss_nil)))
      (pss_cons (ps_if (pt_not (pt_val (SM.pe_callR G__law_same (hr.mono (by decide)) (by rfl) T.g__law_same T.F__law_same.kp (SM.passE rfl rfl rfl rfl) (pa_cons (SM.pe_callR G_first_chain (hr.mono (by decide)) (by rfl) T.g_first_chain T.F_first_chain.kp (SM.passE rfl rfl rfl rfl) (pa_cons (pv 2) pa_nil)) (pa_cons (SM.pe_callR G__law_chain (hr.mono (by decide)) (by rfl) T.g__law_chain T.F__law_chain.kp (SM.passE rfl rfl rfl rfl) (pa_cons (pv 2) pa_nil)) pa_nil)))))
      (pss_one (ps_ret pe_bl))
      pss_nil)
      (pss_cons (ps_set (i := 5) sc_law.nd rfl (Or.inr rfl) (SM.pe_callR G__law_wrong (hr.mono (by decide)) (by rfl) T.g__law_wrong T.F__law_wrong.kp (SM.passE rfl rfl rfl rfl) (pa_cons (pv 1) pa_nil)))
      (pss_one (ps_ret (pe_callB (cr_all rfl) (by rfl) T.m_all (by decide +kernel) (pa_cons (pe_lc (own := [("which", 6)]) (g := gName 6) (tt := tYes) (by rfl) sc_law.nd (pi_range1 (by rfl) T.m_range (pa_cons pe_int pa_nil)) (blkOk_by (own := [("which", 6)]) (N := n_law) (sc := defScope s_law) (by decide +kernel)) (fun _ _ _ _ _ => pg_name (i := 6) sc_law.nd rfl (Or.inl rfl)) (fun _ _ _ _ _ => pts_nil) (fun _ _ _ _ _ => (SM.pe_callR G__law_refused (hr.mono (by decide)) (by rfl) T.g__law_refused T.F__law_refused.kp SM.pass0S (pa_cons (pv 5) (pa_cons (pv 6) pa_nil))))) pa_nil))))))))), ?_⟩
  have hz : sizeLine = 16777216 := rfl
  -- m
  refine cutAt (fun σ H' => ∃ M D, σ = [some (.ref a), some (.ref M), none, none, none, none, none] ∧ Kp [] H H' ∧ Dms H' M D) (fun N hN => ?_) ?_
  · intro M hM
    have k0 : Kp [] H (upd H M (.dK [])) := Kp.new hM
    refine ⟨_, rfl, a, ns, rfl, k0.seqL ha, hl, fun H1 D ds k1 hD e1 => ?_⟩
    have nMD : D ≠ M := (ne_of_none upd_same hD).symm
    refine ⟨k1.at upd_same, mKv D 0, rfl, (by show 2 ≤ 15; decide), ?_⟩
    rw [merge_m]
    refine hN _ _ ⟨M, D, rfl, (k0.trans k1).upd hM, 0, ds, upd_same, by rw [upd_ne nMD]; exact e1, by decide⟩
  rintro _ H1 ⟨M, D, rfl, k1, d1⟩
  have hP1 := k1.tab _ hP
  -- name
  refine cutAt (fun σ H' => (∃ x, x ∈ nm5 ∧ σ = [some (.ref a), some (.ref M), some (.str x), none, none, none, none]) ∧ Kp [M] H1 H' ∧ Dms H' M D) (fun N hN => ?_) ?_
  · refine ⟨rfl, fun H2 p k2 hp => ?_⟩
    have d2 := d1.kp k2
    refine ⟨.ref M, rfl, M, D, 5, rfl, by decide, d2, fun H3 j j0 j1 k3 d3 => ?_⟩
    obtain ⟨x, hx, e⟩ := str_at (l := nm5) j0 j1
    exact ⟨p, _, j, _, rfl, rfl, Kp.seqLM k3 d2 hp, e, hN _ _ ⟨⟨x, hx, rfl⟩, k2.of0.trans k3, d3⟩⟩
  rintro _ H2 ⟨⟨x, hx, rfl⟩, k2, d2⟩
  have hP2 := k2.tab _ hP1
  -- the two lengths
  refine cutAt (fun σ H' => (∃ o3 o4 : Option V, σ = [some (.ref a), some (.ref M), some (.str x), o3, o4, none, none]) ∧ Kp [] H2 H') (fun N hN => ?_) ?_
  · refine ⟨_, rfl, x, rfl, fun _ H3 k3 => ⟨_, rfl, x, rfl, hx, fun H4 k4 => ⟨(by show 2 ≤ sizeLine; decide), fun p1 h1 => ?_⟩⟩, fun y => absurd hx y⟩
    obtain ⟨m1, s1⟩ : Kp [] H4 (upd H4 p1 (.tup [.int (blLen x), .int (blLen x)])) ∧ SqT K (upd H4 p1 (.tup [.int (blLen x), .int (blLen x)])) p1 [.int (blLen x), .int (blLen x)] := ⟨Kp.new h1, sqT_of upd_same⟩
    refine ⟨_, rfl, x, rfl, fun _ H5 k5 => ⟨_, rfl, x, rfl, hx, fun H6 k6 => ⟨(by show 2 ≤ sizeLine; decide), fun p2 h2 => ?_⟩⟩, fun y => absurd hx y⟩
    obtain ⟨m2, s2⟩ : Kp [] H6 (upd H6 p2 (.tup [.int (dgLen x), .int (dgLen x)])) ∧ SqT K (upd H6 p2 (.tup [.int (dgLen x), .int (dgLen x)])) p2 [.int (dgLen x), .int (dgLen x)] := ⟨Kp.new h2, sqT_of upd_same⟩
    refine ⟨(by show 2 ≤ sizeLine; decide), fun p3 h3 => ?_⟩
    obtain ⟨m3, s3⟩ : Kp [] _ (upd (upd H6 p2 (.tup [.int (dgLen x), .int (dgLen x)])) p3 (.lst [.ref p1, .ref p2])) ∧ SqL K (upd (upd H6 p2 (.tup [.int (dgLen x), .int (dgLen x)])) p3 (.lst [.ref p1, .ref p2])) p3 [.ref p1, .ref p2] := ⟨Kp.new h3, sqL_of upd_same⟩
    have s1' := m3.seqT (m2.seqT (k6.seqT (k5.seqT s1)))
    have s2' := m3.seqT s2
    have kA : Kp [] H2 (upd (upd H6 p2 (.tup [.int (dgLen x), .int (dgLen x)])) p3 (.lst [.ref p1, .ref p2])) := (((((k3.trans k4).trans m1).trans k5).trans k6).trans m2).trans m3
    generalize upd (upd H6 p2 (.tup [.int (dgLen x), .int (dgLen x)])) p3 (.lst [.ref p1, .ref p2]) = H7 at *
    refine ⟨p3, rfl, ⟨_, s3⟩, for_it (walk_list (K := K) (a := p3) (xs := [.ref p1, .ref p2])) (fun i σ H' => (∃ o3 o4 : Option V, σ = [some (.ref a), some (.ref M), some (.str x), o3, o4, none, none]) ∧ H7 = H') ⟨⟨none, none, rfl⟩, rfl⟩ (fun i σ H' _ h => h.2 ▸ s3) ?_ ?_⟩
    · rintro i y σ H8 H9 hi ⟨⟨o3, o4, rfl⟩, rfl⟩ ⟨rfl, hy⟩
      obtain ⟨p, n, rfl, hs⟩ : ∃ p n, y = .ref p ∧ SqT K H9 p [.int n, .int n] := by
        have hi2 : i < 2 := hi
        rcases (by omega : i = 0 ∨ i = 1) with rfl | rfl
        · cases hy
          exact ⟨p1, _, rfl, s1'⟩
        · cases hy
          exact ⟨p2, _, rfl, s2'⟩
      refine ⟨p, _, rfl, hs, rfl, _, _, rfl, _, _, rfl, rfl, ?_⟩
      refine ⟨_, rfl, _, _, .type "int", .type "int", true, rfl, .ty _, tyX_of (t := "int") rfl, kit_ty (by decide +kernel), true, rfl, ite2 (fun c => by cases c) (fun _ => ?_)⟩
      refine ⟨_, rfl, _, _, .type "int", .type "bool", false, rfl, .ty _, tyX_of (t := "int") rfl, kit_ty (by decide +kernel), false, rfl, ite2 (fun c => by cases c) (fun _ => ?_)⟩
      refine ⟨_, rfl, _, rfl, rfl, _, rfl, ite2 (fun c => absurd c (by simp)) (fun _ => ?_)⟩
      exact ⟨⟨_, _, rfl⟩, rfl⟩
    · rintro σ H8 ⟨⟨o3, o4, rfl⟩, rfl⟩
      exact hN _ _ ⟨⟨_, _, rfl⟩, kA⟩
  rintro _ H3 ⟨⟨o3, o4, rfl⟩, k3⟩
  have hP3 := k3.tab _ hP2
  have d3 := d2.kp k3
  -- the chains
  refine cutAt (fun σ H' => σ = [some (.ref a), some (.ref M), some (.str x), o3, o4, none, none] ∧ Kp [] H3 H') (fun N hN => ?_) ?_
  · refine ⟨_, rfl, x, rfl, fun _ => ⟨hP3, fun H4 p4 k4 s4 => ?_⟩, fun y => absurd hx y⟩
    refine ⟨_, rfl, x, rfl, hx, fun H5 p5 k5 s5 => ?_⟩
    rw [lch_eq x hx] at s5
    exact ⟨p4, p5, chV x, rfl, k5.seqT s4, s5, ch_len x hx, fun H6 k6 => ⟨true, rfl, ite2 (fun c => by cases c) (fun _ => hN _ _ ⟨rfl, (k4.trans k5).trans k6⟩)⟩⟩
  rintro _ H4 ⟨rfl, k4⟩
  have d4 := d3.kp k4
  -- wrong
  refine cutAt (fun σ H' => ∃ y, y ∉ nm5 ∧ σ = [some (.ref a), some (.ref M), some (.str x), o3, o4, some (.str y), none]) (fun N hN => ?_) ?_
  · exact ⟨_, rfl, M, D, rfl, d4, fun H5 y hy k5 d5 => hN _ _ ⟨y, hy, rfl⟩⟩
  rintro _ H5 ⟨y, hy, rfl⟩
  refine ⟨6, rfl, by decide, by decide, fun D2 hD2 => ?_⟩
  refine lc_it walk_range (fun i H' => H' D2 = some (.lst ((List.replicate i true).map V.bl))) upd_same (fun _ _ _ _ => True.intro) ?_ ?_
  · rintro i v H6 H7 hi e ⟨rfl, rfl⟩
    have hi6 : i < 6 := hi
    refine ⟨rfl, yes_then ⟨_, rfl, _, rfl, y, _, rfl, hy, fun H8 k8 => ⟨_, k8.at e, by rw [List.length_map, List.length_replicate, hz]; omega, ?_⟩⟩⟩
    rw [upd_same, List.replicate_succ', List.map_append]
    rfl
  · intro H6 e
    refine ⟨D2, _, rfl, sqL_of e, ?_⟩
    exact q H6
end
end SK
namespace SK
open PySem PySem.Spec PyProof.Rows L2 GxR SM
theorem mkT {K : PySem.W.Frag} {h : Heap} {mg : Str → Option Value} {fa : Addr} (X : K.In h) (G : h.Ns mainGlobals mg) (hfa : mg "law" = some (.ref fa))
    {w : World}
    {e_Digest f_Digest___init__ : Addr} {od_Di an_Di : Option Addr} {sl_Di : Array (Option Value)} {oc_Di kV_Di dc_Di pm_Di cd_Di ct_Di : Value}
    {f_primes c_primes : Addr} {od_primes an_primes : Option Addr} {sl_primes : Array (Option Value)} {oc_primes kV_primes dc_primes pm_primes ct_primes : Value}
    {P_primes : Addr} {co_primes : Value} {cq_primes : Option Addr} {cv_primes : Array Value} {cs_primes : Array (Option Value)}
    {f_square_root_fraction : Addr} {od_square_root_fraction an_square_root_fraction : Option Addr} {sl_square_root_fraction : Array (Option Value)} {oc_square_root_fraction kV_square_root_fraction dc_square_root_fraction pm_square_root_fraction cd_square_root_fraction ct_square_root_fraction : Value}
    {f_start_chain : Addr} {od_start_chain an_start_chain : Option Addr} {sl_start_chain : Array (Option Value)} {oc_start_chain kV_start_chain dc_start_chain pm_start_chain cd_start_chain ct_start_chain : Value}
    {f_check_name : Addr} {od_check_name an_check_name : Option Addr} {sl_check_name : Array (Option Value)} {oc_check_name kV_check_name dc_check_name pm_check_name cd_check_name ct_check_name : Value}
    {f_block_length : Addr} {od_block_length an_block_length : Option Addr} {sl_block_length : Array (Option Value)} {oc_block_length kV_block_length dc_block_length pm_block_length cd_block_length ct_block_length : Value}
    {f_digest_size : Addr} {od_digest_size an_digest_size : Option Addr} {sl_digest_size : Array (Option Value)} {oc_digest_size kV_digest_size dc_digest_size pm_digest_size cd_digest_size ct_digest_size : Value}
    {f_first_chain : Addr} {od_first_chain an_first_chain : Option Addr} {sl_first_chain : Array (Option Value)} {oc_first_chain kV_first_chain dc_first_chain pm_first_chain cd_first_chain ct_first_chain : Value}
    {f_compress : Addr} {od_compress an_compress : Option Addr} {sl_compress : Array (Option Value)} {oc_compress kV_compress dc_compress pm_compress cd_compress ct_compress : Value}
    {f_digest : Addr} {od_digest an_digest : Option Addr} {sl_digest : Array (Option Value)} {oc_digest kV_digest dc_digest pm_digest cd_digest ct_digest : Value}
    {f__law_draws : Addr} {od__law_draws an__law_draws : Option Addr} {sl__law_draws : Array (Option Value)} {oc__law_draws kV__law_draws dc__law_draws pm__law_draws cd__law_draws ct__law_draws : Value}
    {f__law_take : Addr} {od__law_take an__law_take : Option Addr} {sl__law_take : Array (Option Value)} {oc__law_take kV__law_take dc__law_take pm__law_take cd__law_take ct__law_take : Value}
    {f__law_same : Addr} {od__law_same an__law_same : Option Addr} {sl__law_same : Array (Option Value)} {oc__law_same kV__law_same dc__law_same pm__law_same cd__law_same ct__law_same : Value}
    {f__law_root : Addr} {od__law_root an__law_root : Option Addr} {sl__law_root : Array (Option Value)} {oc__law_root kV__law_root dc__law_root pm__law_root cd__law_root ct__law_root : Value}
    {f__law_primes : Addr} {od__law_primes an__law_primes : Option Addr} {sl__law_primes : Array (Option Value)} {oc__law_primes kV__law_primes dc__law_primes pm__law_primes cd__law_primes ct__law_primes : Value}
    {f__law_names : Addr} {od__law_names an__law_names : Option Addr} {sl__law_names : Array (Option Value)} {oc__law_names kV__law_names dc__law_names pm__law_names cd__law_names ct__law_names : Value}
    {f__law_block : Addr} {od__law_block an__law_block : Option Addr} {sl__law_block : Array (Option Value)} {oc__law_block kV__law_block dc__law_block pm__law_block cd__law_block ct__law_block : Value}
    {f__law_size : Addr} {od__law_size an__law_size : Option Addr} {sl__law_size : Array (Option Value)} {oc__law_size kV__law_size dc__law_size pm__law_size cd__law_size ct__law_size : Value}
    {f__law_chain : Addr} {od__law_chain an__law_chain : Option Addr} {sl__law_chain : Array (Option Value)} {oc__law_chain kV__law_chain dc__law_chain pm__law_chain cd__law_chain ct__law_chain : Value}
    {f__law_wrong : Addr} {od__law_wrong an__law_wrong : Option Addr} {sl__law_wrong : Array (Option Value)} {oc__law_wrong kV__law_wrong dc__law_wrong pm__law_wrong cd__law_wrong ct__law_wrong : Value}
    {f__law_refused : Addr} {od__law_refused an__law_refused : Option Addr} {sl__law_refused : Array (Option Value)} {oc__law_refused kV__law_refused dc__law_refused pm__law_refused cd__law_refused ct__law_refused : Value}
    {f_law : Addr} {od_law an_law : Option Addr} {sl_law : Array (Option Value)} {oc_law kV_law dc_law pm_law cd_law ct_law : Value}
    {e_SaltmillError : Addr}
    {e_OctetError : Addr}
    {e_ChoiceError : Addr}
    {e_LengthError : Addr}
    {t_LOW_64 : Tok}
    {e_NAMES : Addr} {od_NAMES : Option Addr} {it_NAMES : Array Value} {nn_NAMES : Nat} {sl_NAMES : Array (Option Value)}
    {e_BLOCK_LENGTHS : Addr} {es_BLOCK_LENGTHS : Array DictEntry} {nn_BLOCK_LENGTHS : Nat} {t_BLOCK_LENGTHS_sha1 : Tok} {t_BLOCK_LENGTHS_sha224 : Tok} {t_BLOCK_LENGTHS_sha256 : Tok} {t_BLOCK_LENGTHS_sha384 : Tok} {t_BLOCK_LENGTHS_sha512 : Tok}
    {e_SIZES : Addr} {es_SIZES : Array DictEntry} {nn_SIZES : Nat} {t_SIZES_sha1 : Tok} {t_SIZES_sha224 : Tok} {t_SIZES_sha256 : Tok} {t_SIZES_sha384 : Tok} {t_SIZES_sha512 : Tok}
    {e_SHA1_CHAIN : Addr} {od_SHA1_CHAIN : Option Addr} {it_SHA1_CHAIN : Array Value} {nn_SHA1_CHAIN : Nat} {sl_SHA1_CHAIN : Array (Option Value)}
    {t_LOW_32_families : Tok}
    (n_primes : PySem.W.nsIn K mainGlobals "primes" = some (some (.ref f_primes)))
    (l_primes : K.lookup f_primes = some ⟨oc_primes, od_primes, .func (PySem.W.fnOf "primes" "primes" (defArgs s_primes) (defBody s_primes) (defScope s_primes) .none kV_primes dc_primes pm_primes an_primes (.ref c_primes) ct_primes), sl_primes⟩)
    (r_primes : PySem.W.codeIn K (.ref c_primes) "primes" = true)
    (k_primes : PySem.W.keepIn K (.ref f_primes) = true)
    (t_primes : K.lookup c_primes = some ⟨co_primes, cq_primes, .fields cv_primes, cs_primes⟩)
    (u_primes : (cv_primes[11]? : Option Value) = some (.ref P_primes))
    (v_primes : K.lookup P_primes = none)
    (n_square_root_fraction : PySem.W.nsIn K mainGlobals "square_root_fraction" = some (some (.ref f_square_root_fraction)))
    (l_square_root_fraction : K.lookup f_square_root_fraction = some ⟨oc_square_root_fraction, od_square_root_fraction, .func (PySem.W.fnOf "square_root_fraction" "square_root_fraction" (defArgs s_square_root_fraction) (defBody s_square_root_fraction) (defScope s_square_root_fraction) .none kV_square_root_fraction dc_square_root_fraction pm_square_root_fraction an_square_root_fraction cd_square_root_fraction ct_square_root_fraction), sl_square_root_fraction⟩)
    (r_square_root_fraction : PySem.W.codeIn K cd_square_root_fraction "square_root_fraction" = true)
    (k_square_root_fraction : PySem.W.keepIn K (.ref f_square_root_fraction) = true)
    (n_start_chain : PySem.W.nsIn K mainGlobals "start_chain" = some (some (.ref f_start_chain)))
    (l_start_chain : K.lookup f_start_chain = some ⟨oc_start_chain, od_start_chain, .func (PySem.W.fnOf "start_chain" "start_chain" (defArgs s_start_chain) (defBody s_start_chain) (defScope s_start_chain) .none kV_start_chain dc_start_chain pm_start_chain an_start_chain cd_start_chain ct_start_chain), sl_start_chain⟩)
    (r_start_chain : PySem.W.codeIn K cd_start_chain "start_chain" = true)
    (k_start_chain : PySem.W.keepIn K (.ref f_start_chain) = true)
    (n_check_name : PySem.W.nsIn K mainGlobals "check_name" = some (some (.ref f_check_name)))
    (l_check_name : K.lookup f_check_name = some ⟨oc_check_name, od_check_name, .func (PySem.W.fnOf "check_name" "check_name" (defArgs s_check_name) (defBody s_check_name) (defScope s_check_name) .none kV_check_name dc_check_name pm_check_name an_check_name cd_check_name ct_check_name), sl_check_name⟩)
    (r_check_name : PySem.W.codeIn K cd_check_name "check_name" = true)
    (k_check_name : PySem.W.keepIn K (.ref f_check_name) = true)
    (n_block_length : PySem.W.nsIn K mainGlobals "block_length" = some (some (.ref f_block_length)))
    (l_block_length : K.lookup f_block_length = some ⟨oc_block_length, od_block_length, .func (PySem.W.fnOf "block_length" "block_length" (defArgs s_block_length) (defBody s_block_length) (defScope s_block_length) .none kV_block_length dc_block_length pm_block_length an_block_length cd_block_length ct_block_length), sl_block_length⟩)
    (r_block_length : PySem.W.codeIn K cd_block_length "block_length" = true)
    (k_block_length : PySem.W.keepIn K (.ref f_block_length) = true)
    (n_digest_size : PySem.W.nsIn K mainGlobals "digest_size" = some (some (.ref f_digest_size)))
    (l_digest_size : K.lookup f_digest_size = some ⟨oc_digest_size, od_digest_size, .func (PySem.W.fnOf "digest_size" "digest_size" (defArgs s_digest_size) (defBody s_digest_size) (defScope s_digest_size) .none kV_digest_size dc_digest_size pm_digest_size an_digest_size cd_digest_size ct_digest_size), sl_digest_size⟩)
    (r_digest_size : PySem.W.codeIn K cd_digest_size "digest_size" = true)
    (k_digest_size : PySem.W.keepIn K (.ref f_digest_size) = true)
    (n_first_chain : PySem.W.nsIn K mainGlobals "first_chain" = some (some (.ref f_first_chain)))
    (l_first_chain : K.lookup f_first_chain = some ⟨oc_first_chain, od_first_chain, .func (PySem.W.fnOf "first_chain" "first_chain" (defArgs s_first_chain) (defBody s_first_chain) (defScope s_first_chain) .none kV_first_chain dc_first_chain pm_first_chain an_first_chain cd_first_chain ct_first_chain), sl_first_chain⟩)
    (r_first_chain : PySem.W.codeIn K cd_first_chain "first_chain" = true)
    (k_first_chain : PySem.W.keepIn K (.ref f_first_chain) = true)
    (n_compress : PySem.W.nsIn K mainGlobals "compress" = some (some (.ref f_compress)))
    (l_compress : K.lookup f_compress = some ⟨oc_compress, od_compress, .func (PySem.W.fnOf "compress" "compress" (defArgs s_compress) (defBody s_compress) (defScope s_compress) .none kV_compress dc_compress pm_compress an_compress cd_compress ct_compress), sl_compress⟩)
    (r_compress : PySem.W.codeIn K cd_compress "compress" = true)
    (k_compress : PySem.W.keepIn K (.ref f_compress) = true)
    (n_digest : PySem.W.nsIn K mainGlobals "digest" = some (some (.ref f_digest)))
    (l_digest : K.lookup f_digest = some ⟨oc_digest, od_digest, .func (PySem.W.fnOf "digest" "digest" (defArgs s_digest) (defBody s_digest) (defScope s_digest) .none kV_digest dc_digest pm_digest an_digest cd_digest ct_digest), sl_digest⟩)
    (r_digest : PySem.W.codeIn K cd_digest "digest" = true)
    (k_digest : PySem.W.keepIn K (.ref f_digest) = true)
    (n__law_draws : PySem.W.nsIn K mainGlobals "_law_draws" = some (some (.ref f__law_draws)))
    (l__law_draws : K.lookup f__law_draws = some ⟨oc__law_draws, od__law_draws, .func (PySem.W.fnOf "_law_draws" "_law_draws" (defArgs s__law_draws) (defBody s__law_draws) (defScope s__law_draws) .none kV__law_draws dc__law_draws pm__law_draws an__law_draws cd__law_draws ct__law_draws), sl__law_draws⟩)
    (r__law_draws : PySem.W.codeIn K cd__law_draws "_law_draws" = true)
    (k__law_draws : PySem.W.keepIn K (.ref f__law_draws) = true)
    (n__law_take : PySem.W.nsIn K mainGlobals "_law_take" = some (some (.ref f__law_take)))
    (l__law_take : K.lookup f__law_take = some ⟨oc__law_take, od__law_take, .func (PySem.W.fnOf "_law_take" "_law_take" (defArgs s__law_take) (defBody s__law_take) (defScope s__law_take) .none kV__law_take dc__law_take pm__law_take an__law_take cd__law_take ct__law_take), sl__law_take⟩)
    (r__law_take : PySem.W.codeIn K cd__law_take "_law_take" = true)
    (k__law_take : PySem.W.keepIn K (.ref f__law_take) = true)
    (n__law_same : PySem.W.nsIn K mainGlobals "_law_same" = some (some (.ref f__law_same)))
    (l__law_same : K.lookup f__law_same = some ⟨oc__law_same, od__law_same, .func (PySem.W.fnOf "_law_same" "_law_same" (defArgs s__law_same) (defBody s__law_same) (defScope s__law_same) .none kV__law_same dc__law_same pm__law_same an__law_same cd__law_same ct__law_same), sl__law_same⟩)
    (r__law_same : PySem.W.codeIn K cd__law_same "_law_same" = true)
    (k__law_same : PySem.W.keepIn K (.ref f__law_same) = true)
    (n__law_root : PySem.W.nsIn K mainGlobals "_law_root" = some (some (.ref f__law_root)))
    (l__law_root : K.lookup f__law_root = some ⟨oc__law_root, od__law_root, .func (PySem.W.fnOf "_law_root" "_law_root" (defArgs s__law_root) (defBody s__law_root) (defScope s__law_root) .none kV__law_root dc__law_root pm__law_root an__law_root cd__law_root ct__law_root), sl__law_root⟩)
    (r__law_root : PySem.W.codeIn K cd__law_root "_law_root" = true)
    (k__law_root : PySem.W.keepIn K (.ref f__law_root) = true)
    (n__law_primes : PySem.W.nsIn K mainGlobals "_law_primes" = some (some (.ref f__law_primes)))
    (l__law_primes : K.lookup f__law_primes = some ⟨oc__law_primes, od__law_primes, .func (PySem.W.fnOf "_law_primes" "_law_primes" (defArgs s__law_primes) (defBody s__law_primes) (defScope s__law_primes) .none kV__law_primes dc__law_primes pm__law_primes an__law_primes cd__law_primes ct__law_primes), sl__law_primes⟩)
    (r__law_primes : PySem.W.codeIn K cd__law_primes "_law_primes" = true)
    (k__law_primes : PySem.W.keepIn K (.ref f__law_primes) = true)
    (n__law_names : PySem.W.nsIn K mainGlobals "_law_names" = some (some (.ref f__law_names)))
    (l__law_names : K.lookup f__law_names = some ⟨oc__law_names, od__law_names, .func (PySem.W.fnOf "_law_names" "_law_names" (defArgs s__law_names) (defBody s__law_names) (defScope s__law_names) .none kV__law_names dc__law_names pm__law_names an__law_names cd__law_names ct__law_names), sl__law_names⟩)
    (r__law_names : PySem.W.codeIn K cd__law_names "_law_names" = true)
    (k__law_names : PySem.W.keepIn K (.ref f__law_names) = true)
    (n__law_block : PySem.W.nsIn K mainGlobals "_law_block" = some (some (.ref f__law_block)))
    (l__law_block : K.lookup f__law_block = some ⟨oc__law_block, od__law_block, .func (PySem.W.fnOf "_law_block" "_law_block" (defArgs s__law_block) (defBody s__law_block) (defScope s__law_block) .none kV__law_block dc__law_block pm__law_block an__law_block cd__law_block ct__law_block), sl__law_block⟩)
    (r__law_block : PySem.W.codeIn K cd__law_block "_law_block" = true)
    (k__law_block : PySem.W.keepIn K (.ref f__law_block) = true)
    (n__law_size : PySem.W.nsIn K mainGlobals "_law_size" = some (some (.ref f__law_size)))
    (l__law_size : K.lookup f__law_size = some ⟨oc__law_size, od__law_size, .func (PySem.W.fnOf "_law_size" "_law_size" (defArgs s__law_size) (defBody s__law_size) (defScope s__law_size) .none kV__law_size dc__law_size pm__law_size an__law_size cd__law_size ct__law_size), sl__law_size⟩)
    (r__law_size : PySem.W.codeIn K cd__law_size "_law_size" = true)
    (k__law_size : PySem.W.keepIn K (.ref f__law_size) = true)
    (n__law_chain : PySem.W.nsIn K mainGlobals "_law_chain" = some (some (.ref f__law_chain)))
    (l__law_chain : K.lookup f__law_chain = some ⟨oc__law_chain, od__law_chain, .func (PySem.W.fnOf "_law_chain" "_law_chain" (defArgs s__law_chain) (defBody s__law_chain) (defScope s__law_chain) .none kV__law_chain dc__law_chain pm__law_chain an__law_chain cd__law_chain ct__law_chain), sl__law_chain⟩)
    (r__law_chain : PySem.W.codeIn K cd__law_chain "_law_chain" = true)
    (k__law_chain : PySem.W.keepIn K (.ref f__law_chain) = true)
    (n__law_wrong : PySem.W.nsIn K mainGlobals "_law_wrong" = some (some (.ref f__law_wrong)))
    (l__law_wrong : K.lookup f__law_wrong = some ⟨oc__law_wrong, od__law_wrong, .func (PySem.W.fnOf "_law_wrong" "_law_wrong" (defArgs s__law_wrong) (defBody s__law_wrong) (defScope s__law_wrong) .none kV__law_wrong dc__law_wrong pm__law_wrong an__law_wrong cd__law_wrong ct__law_wrong), sl__law_wrong⟩)
    (r__law_wrong : PySem.W.codeIn K cd__law_wrong "_law_wrong" = true)
    (k__law_wrong : PySem.W.keepIn K (.ref f__law_wrong) = true)
    (n__law_refused : PySem.W.nsIn K mainGlobals "_law_refused" = some (some (.ref f__law_refused)))
    (l__law_refused : K.lookup f__law_refused = some ⟨oc__law_refused, od__law_refused, .func (PySem.W.fnOf "_law_refused" "_law_refused" (defArgs s__law_refused) (defBody s__law_refused) (defScope s__law_refused) .none kV__law_refused dc__law_refused pm__law_refused an__law_refused cd__law_refused ct__law_refused), sl__law_refused⟩)
    (r__law_refused : PySem.W.codeIn K cd__law_refused "_law_refused" = true)
    (k__law_refused : PySem.W.keepIn K (.ref f__law_refused) = true)
    (n_law : PySem.W.nsIn K mainGlobals "law" = some (some (.ref f_law)))
    (l_law : K.lookup f_law = some ⟨oc_law, od_law, .func (PySem.W.fnOf "law" "law" (defArgs s_law) (defBody s_law) (defScope s_law) .none kV_law dc_law pm_law an_law cd_law ct_law), sl_law⟩)
    (r_law : PySem.W.codeIn K cd_law "law" = true)
    (k_law : PySem.W.keepIn K (.ref f_law) = true)
    (n_SaltmillError : PySem.W.nsIn K mainGlobals "SaltmillError" = some (some (.ref e_SaltmillError)))
    (x_SaltmillError : PySem.W.excIn K e_SaltmillError [.type "ValueError", .type "Exception", .type "BaseException", .type "object"] "ValueError.__new__" = true)
    (k_SaltmillError : PySem.W.keepIn K (.ref e_SaltmillError) = true)
    (b_SaltmillError : PySem.W.subIn K (.ref e_SaltmillError) (.type "BaseException") = some true)
    (t_SaltmillError : PySem.W.typeIn K (.ref e_SaltmillError) = some (.type "type"))
    (h_SaltmillError : PySem.W.hasDictIn K e_SaltmillError = true)
    (n_OctetError : PySem.W.nsIn K mainGlobals "OctetError" = some (some (.ref e_OctetError)))
    (x_OctetError : PySem.W.excIn K e_OctetError [.type "ValueError", .type "Exception", .type "BaseException", .type "object"] "ValueError.__new__" = true)
    (k_OctetError : PySem.W.keepIn K (.ref e_OctetError) = true)
    (b_OctetError : PySem.W.subIn K (.ref e_OctetError) (.type "BaseException") = some true)
    (t_OctetError : PySem.W.typeIn K (.ref e_OctetError) = some (.type "type"))
    (h_OctetError : PySem.W.hasDictIn K e_OctetError = true)
    (n_ChoiceError : PySem.W.nsIn K mainGlobals "ChoiceError" = some (some (.ref e_ChoiceError)))
    (x_ChoiceError : PySem.W.excIn K e_ChoiceError [.type "ValueError", .type "Exception", .type "BaseException", .type "object"] "ValueError.__new__" = true)
    (k_ChoiceError : PySem.W.keepIn K (.ref e_ChoiceError) = true)
    (b_ChoiceError : PySem.W.subIn K (.ref e_ChoiceError) (.type "BaseException") = some true)
    (t_ChoiceError : PySem.W.typeIn K (.ref e_ChoiceError) = some (.type "type"))
    (h_ChoiceError : PySem.W.hasDictIn K e_ChoiceError = true)
    (n_LengthError : PySem.W.nsIn K mainGlobals "LengthError" = some (some (.ref e_LengthError)))
    (x_LengthError : PySem.W.excIn K e_LengthError [.type "ValueError", .type "Exception", .type "BaseException", .type "object"] "ValueError.__new__" = true)
    (k_LengthError : PySem.W.keepIn K (.ref e_LengthError) = true)
    (b_LengthError : PySem.W.subIn K (.ref e_LengthError) (.type "BaseException") = some true)
    (t_LengthError : PySem.W.typeIn K (.ref e_LengthError) = some (.type "type"))
    (h_LengthError : PySem.W.hasDictIn K e_LengthError = true)
    (sub_ChoiceError_SaltmillError : PySem.W.subIn K (.ref e_ChoiceError) (.ref e_SaltmillError) = some true)
    (sub_ChoiceError_ChoiceError : PySem.W.subIn K (.ref e_ChoiceError) (.ref e_ChoiceError) = some true)
    (sub_ChoiceError_LengthError : PySem.W.subIn K (.ref e_ChoiceError) (.ref e_LengthError) = some false)
    (xg_ChoiceError : PySem.W.findIn K (.ref e_ChoiceError) "__getattribute__" = some (some (.builtin "BaseException.__getattribute__")))
    (xk_ChoiceError : PySem.W.findIn K (.ref e_ChoiceError) "__getattr__" = some none)
    (xa_ChoiceError : PySem.W.findIn K (.ref e_ChoiceError) "__class__" = some (some (.builtin "object.__class__")))
    (xm_ChoiceError : PySem.W.mroIn K e_ChoiceError (.type "object") = some true)
    (xn : PySem.W.specialIn K (.builtin "object.__class__") "__get__" = some (some (.builtin "getset_descriptor.__get__")))
    (xt : PySem.W.takesIn K (.builtin "object.__class__") = some true)
    (n_LOW_64 : PySem.W.nsIn K mainGlobals "LOW_64" = some (some (.int 18446744073709551615 t_LOW_64)))
    (n_NAMES : PySem.W.nsIn K mainGlobals "NAMES" = some (some (.ref e_NAMES)))
    (l_NAMES : K.lookup e_NAMES = some ⟨.type "tuple", od_NAMES, .seq it_NAMES nn_NAMES, sl_NAMES⟩)
    (i_NAMES : Vals [.str "sha1", .str "sha224", .str "sha256", .str "sha384", .str "sha512"] it_NAMES.toList)
    (n_BLOCK_LENGTHS : PySem.W.nsIn K mainGlobals "BLOCK_LENGTHS" = some (some (.ref e_BLOCK_LENGTHS)))
    (l_BLOCK_LENGTHS : K.lookup e_BLOCK_LENGTHS = some ⟨.type "dict", none, .dict es_BLOCK_LENGTHS nn_BLOCK_LENGTHS, #[]⟩)
    (j_BLOCK_LENGTHS : PySem.W.KeysLit w.params es_BLOCK_LENGTHS.toList)
    (n_BLOCK_LENGTHS_sha1 : PySem.W.nsIn K e_BLOCK_LENGTHS "sha1" = some (some (.int 64 t_BLOCK_LENGTHS_sha1)))
    (n_BLOCK_LENGTHS_sha224 : PySem.W.nsIn K e_BLOCK_LENGTHS "sha224" = some (some (.int 64 t_BLOCK_LENGTHS_sha224)))
    (n_BLOCK_LENGTHS_sha256 : PySem.W.nsIn K e_BLOCK_LENGTHS "sha256" = some (some (.int 64 t_BLOCK_LENGTHS_sha256)))
    (n_BLOCK_LENGTHS_sha384 : PySem.W.nsIn K e_BLOCK_LENGTHS "sha384" = some (some (.int 128 t_BLOCK_LENGTHS_sha384)))
    (n_BLOCK_LENGTHS_sha512 : PySem.W.nsIn K e_BLOCK_LENGTHS "sha512" = some (some (.int 128 t_BLOCK_LENGTHS_sha512)))
    (n_SIZES : PySem.W.nsIn K mainGlobals "SIZES" = some (some (.ref e_SIZES)))
    (l_SIZES : K.lookup e_SIZES = some ⟨.type "dict", none, .dict es_SIZES nn_SIZES, #[]⟩)
    (j_SIZES : PySem.W.KeysLit w.params es_SIZES.toList)
    (n_SIZES_sha1 : PySem.W.nsIn K e_SIZES "sha1" = some (some (.int 20 t_SIZES_sha1)))
    (n_SIZES_sha224 : PySem.W.nsIn K e_SIZES "sha224" = some (some (.int 28 t_SIZES_sha224)))
    (n_SIZES_sha256 : PySem.W.nsIn K e_SIZES "sha256" = some (some (.int 32 t_SIZES_sha256)))
    (n_SIZES_sha384 : PySem.W.nsIn K e_SIZES "sha384" = some (some (.int 48 t_SIZES_sha384)))
    (n_SIZES_sha512 : PySem.W.nsIn K e_SIZES "sha512" = some (some (.int 64 t_SIZES_sha512)))
    (n_SHA1_CHAIN : PySem.W.nsIn K mainGlobals "SHA1_CHAIN" = some (some (.ref e_SHA1_CHAIN)))
    (l_SHA1_CHAIN : K.lookup e_SHA1_CHAIN = some ⟨.type "tuple", od_SHA1_CHAIN, .seq it_SHA1_CHAIN nn_SHA1_CHAIN, sl_SHA1_CHAIN⟩)
    (i_SHA1_CHAIN : Vals [.int 1732584193, .int 4023233417, .int 2562383102, .int 271733878, .int 3285377520] it_SHA1_CHAIN.toList)
    (n_LOW_32_families : PySem.W.nsIn K mainGlobals "LOW_32_families" = some (some (.int 4294967295 t_LOW_32_families)))
    (m_abs : PySem.W.nsIn K mainGlobals "abs" = some none)
    (m_all : PySem.W.nsIn K mainGlobals "all" = some none)
    (m_bool : PySem.W.nsIn K mainGlobals "bool" = some none)
    (m_int : PySem.W.nsIn K mainGlobals "int" = some none)
    (m_isinstance : PySem.W.nsIn K mainGlobals "isinstance" = some none)
    (m_len : PySem.W.nsIn K mainGlobals "len" = some none)
    (m_range : PySem.W.nsIn K mainGlobals "range" = some none)
    (m_tuple : PySem.W.nsIn K mainGlobals "tuple" = some none)
    (m_ValueError : PySem.W.nsIn K mainGlobals "ValueError" = some none)
    (kit_V : PySem.W.kitOne K (.ref e_ChoiceError) (.type "ValueError") = some true)
    (n_isqrt : PySem.W.nsIn K mainGlobals "isqrt" = some (some (.builtin "math.isqrt")))
    (n_Digest : PySem.W.nsIn K mainGlobals "Digest" = some (some (.ref e_Digest)))
    (mk_Digest : PySem.W.makesIn K e_Digest = true)
    (in_Digest : PySem.W.findIn K (.ref e_Digest) "__init__" = some (some (.ref f_Digest___init__)))
    (fn_Digest : PySem.W.isFn K (.ref f_Digest___init__) = true)
    (kp_Digest : PySem.W.keepIn K (.ref e_Digest) = true)
    (l_Di : K.lookup f_Digest___init__ = some ⟨oc_Di, od_Di, .func (PySem.W.fnOf "__init__" "Digest.__init__" (defArgs s_Digest___init__) (defBody s_Digest___init__) (defScope s_Digest___init__) .none kV_Di dc_Di pm_Di an_Di cd_Di ct_Di), sl_Di⟩)
    (r_Di : PySem.W.codeIn K cd_Di "Digest.__init__" = true)
    (k_Di : PySem.W.keepIn K (.ref f_Digest___init__) = true) :
    ∃ T : Txt w K mg, T.a_law = fa ∧ (∀ (s : Shared) (u : Value), BindsTo s T.d_law ⟨[u], []⟩ [("script", u)]) ∧ PySem.W.tabIn K "primes" = some (T.c_primes, T.P_primes) ∧ K.lookup T.P_primes = none := by
  have F_Di := fun_mk (st := s_Digest___init__) l_Di r_Di k_Di
  have e := hfa.symm.trans (PySem.W.mg_of X G n_law)
  cases e
  have F_primes := fun_mk (st := s_primes) l_primes r_primes k_primes
  have F_square_root_fraction := fun_mk (st := s_square_root_fraction) l_square_root_fraction r_square_root_fraction k_square_root_fraction
  have F_start_chain := fun_mk (st := s_start_chain) l_start_chain r_start_chain k_start_chain
  have F_check_name := fun_mk (st := s_check_name) l_check_name r_check_name k_check_name
  have F_block_length := fun_mk (st := s_block_length) l_block_length r_block_length k_block_length
  have F_digest_size := fun_mk (st := s_digest_size) l_digest_size r_digest_size k_digest_size
  have F_first_chain := fun_mk (st := s_first_chain) l_first_chain r_first_chain k_first_chain
  have F_compress := fun_mk (st := s_compress) l_compress r_compress k_compress
  have F_digest := fun_mk (st := s_digest) l_digest r_digest k_digest
  have F__law_draws := fun_mk (st := s__law_draws) l__law_draws r__law_draws k__law_draws
  have F__law_take := fun_mk (st := s__law_take) l__law_take r__law_take k__law_take
  have F__law_same := fun_mk (st := s__law_same) l__law_same r__law_same k__law_same
  have F__law_root := fun_mk (st := s__law_root) l__law_root r__law_root k__law_root
  have F__law_primes := fun_mk (st := s__law_primes) l__law_primes r__law_primes k__law_primes
  have F__law_names := fun_mk (st := s__law_names) l__law_names r__law_names k__law_names
  have F__law_block := fun_mk (st := s__law_block) l__law_block r__law_block k__law_block
  have F__law_size := fun_mk (st := s__law_size) l__law_size r__law_size k__law_size
  have F__law_chain := fun_mk (st := s__law_chain) l__law_chain r__law_chain k__law_chain
  have F__law_wrong := fun_mk (st := s__law_wrong) l__law_wrong r__law_wrong k__law_wrong
  have F__law_refused := fun_mk (st := s__law_refused) l__law_refused r__law_refused k__law_refused
  have F_law := fun_mk (st := s_law) l_law r_law k_law
  exact ⟨{ a_primes := f_primes,
            d_primes := PySem.W.fnOf "primes" "primes" (defArgs s_primes) (defBody s_primes) (defScope s_primes) .none kV_primes dc_primes pm_primes an_primes (.ref c_primes) ct_primes,
            F_primes := F_primes,
            g_primes := PySem.W.mg_of X G n_primes,
            b_primes := (F_primes.binds (ps := ["count"]) fun _ _ _ _ _ _ us hl => match us, hl with | [_], _ => rfl),
            c_primes := c_primes,
            P_primes := P_primes,
            L_primes := ⟨_, _, _, _, _, _, _, _, l_primes, r_primes⟩,
            a_square_root_fraction := f_square_root_fraction,
            d_square_root_fraction := PySem.W.fnOf "square_root_fraction" "square_root_fraction" (defArgs s_square_root_fraction) (defBody s_square_root_fraction) (defScope s_square_root_fraction) .none kV_square_root_fraction dc_square_root_fraction pm_square_root_fraction an_square_root_fraction cd_square_root_fraction ct_square_root_fraction,
            F_square_root_fraction := F_square_root_fraction,
            g_square_root_fraction := PySem.W.mg_of X G n_square_root_fraction,
            b_square_root_fraction := (F_square_root_fraction.binds (ps := ["prime"]) fun _ _ _ _ _ _ us hl => match us, hl with | [_], _ => rfl),
            a_start_chain := f_start_chain,
            d_start_chain := PySem.W.fnOf "start_chain" "start_chain" (defArgs s_start_chain) (defBody s_start_chain) (defScope s_start_chain) .none kV_start_chain dc_start_chain pm_start_chain an_start_chain cd_start_chain ct_start_chain,
            F_start_chain := F_start_chain,
            g_start_chain := PySem.W.mg_of X G n_start_chain,
            b_start_chain := (F_start_chain.binds (ps := ["name"]) fun _ _ _ _ _ _ us hl => match us, hl with | [_], _ => rfl),
            a_check_name := f_check_name,
            d_check_name := PySem.W.fnOf "check_name" "check_name" (defArgs s_check_name) (defBody s_check_name) (defScope s_check_name) .none kV_check_name dc_check_name pm_check_name an_check_name cd_check_name ct_check_name,
            F_check_name := F_check_name,
            g_check_name := PySem.W.mg_of X G n_check_name,
            b_check_name := (F_check_name.binds (ps := ["name"]) fun _ _ _ _ _ _ us hl => match us, hl with | [_], _ => rfl),
            a_block_length := f_block_length,
            d_block_length := PySem.W.fnOf "block_length" "block_length" (defArgs s_block_length) (defBody s_block_length) (defScope s_block_length) .none kV_block_length dc_block_length pm_block_length an_block_length cd_block_length ct_block_length,
            F_block_length := F_block_length,
            g_block_length := PySem.W.mg_of X G n_block_length,
            b_block_length := (F_block_length.binds (ps := ["name"]) fun _ _ _ _ _ _ us hl => match us, hl with | [_], _ => rfl),
            a_digest_size := f_digest_size,
            d_digest_size := PySem.W.fnOf "digest_size" "digest_size" (defArgs s_digest_size) (defBody s_digest_size) (defScope s_digest_size) .none kV_digest_size dc_digest_size pm_digest_size an_digest_size cd_digest_size ct_digest_size,
            F_digest_size := F_digest_size,
            g_digest_size := PySem.W.mg_of X G n_digest_size,
            b_digest_size := (F_digest_size.binds (ps := ["name"]) fun _ _ _ _ _ _ us hl => match us, hl with | [_], _ => rfl),
            a_first_chain := f_first_chain,
            d_first_chain := PySem.W.fnOf "first_chain" "first_chain" (defArgs s_first_chain) (defBody s_first_chain) (defScope s_first_chain) .none kV_first_chain dc_first_chain pm_first_chain an_first_chain cd_first_chain ct_first_chain,
            F_first_chain := F_first_chain,
            g_first_chain := PySem.W.mg_of X G n_first_chain,
            b_first_chain := (F_first_chain.binds (ps := ["name"]) fun _ _ _ _ _ _ us hl => match us, hl with | [_], _ => rfl),
            a_compress := f_compress,
            d_compress := PySem.W.fnOf "compress" "compress" (defArgs s_compress) (defBody s_compress) (defScope s_compress) .none kV_compress dc_compress pm_compress an_compress cd_compress ct_compress,
            F_compress := F_compress,
            g_compress := PySem.W.mg_of X G n_compress,
            b_compress := (F_compress.binds (ps := ["name", "chain", "block"]) fun _ _ _ _ _ _ us hl => match us, hl with | [_, _, _], _ => rfl),
            a_digest := f_digest,
            d_digest := PySem.W.fnOf "digest" "digest" (defArgs s_digest) (defBody s_digest) (defScope s_digest) .none kV_digest dc_digest pm_digest an_digest cd_digest ct_digest,
            F_digest := F_digest,
            g_digest := PySem.W.mg_of X G n_digest,
            b_digest := (F_digest.binds (ps := ["name", "octets"]) fun _ _ _ _ _ _ us hl => match us, hl with | [_, _], _ => rfl),
            a__law_draws := f__law_draws,
            d__law_draws := PySem.W.fnOf "_law_draws" "_law_draws" (defArgs s__law_draws) (defBody s__law_draws) (defScope s__law_draws) .none kV__law_draws dc__law_draws pm__law_draws an__law_draws cd__law_draws ct__law_draws,
            F__law_draws := F__law_draws,
            g__law_draws := PySem.W.mg_of X G n__law_draws,
            b__law_draws := (F__law_draws.binds (ps := ["script"]) fun _ _ _ _ _ _ us hl => match us, hl with | [_], _ => rfl),
            a__law_take := f__law_take,
            d__law_take := PySem.W.fnOf "_law_take" "_law_take" (defArgs s__law_take) (defBody s__law_take) (defScope s__law_take) .none kV__law_take dc__law_take pm__law_take an__law_take cd__law_take ct__law_take,
            F__law_take := F__law_take,
            g__law_take := PySem.W.mg_of X G n__law_take,
            b__law_take := (F__law_take.binds (ps := ["m", "many"]) fun _ _ _ _ _ _ us hl => match us, hl with | [_, _], _ => rfl),
            a__law_same := f__law_same,
            d__law_same := PySem.W.fnOf "_law_same" "_law_same" (defArgs s__law_same) (defBody s__law_same) (defScope s__law_same) .none kV__law_same dc__law_same pm__law_same an__law_same cd__law_same ct__law_same,
            F__law_same := F__law_same,
            g__law_same := PySem.W.mg_of X G n__law_same,
            b__law_same := (F__law_same.binds (ps := ["actual", "due"]) fun _ _ _ _ _ _ us hl => match us, hl with | [_, _], _ => rfl),
            a__law_root := f__law_root,
            d__law_root := PySem.W.fnOf "_law_root" "_law_root" (defArgs s__law_root) (defBody s__law_root) (defScope s__law_root) .none kV__law_root dc__law_root pm__law_root an__law_root cd__law_root ct__law_root,
            F__law_root := F__law_root,
            g__law_root := PySem.W.mg_of X G n__law_root,
            b__law_root := (F__law_root.binds (ps := ["number", "power"]) fun _ _ _ _ _ _ us hl => match us, hl with | [_, _], _ => rfl),
            a__law_primes := f__law_primes,
            d__law_primes := PySem.W.fnOf "_law_primes" "_law_primes" (defArgs s__law_primes) (defBody s__law_primes) (defScope s__law_primes) .none kV__law_primes dc__law_primes pm__law_primes an__law_primes cd__law_primes ct__law_primes,
            F__law_primes := F__law_primes,
            g__law_primes := PySem.W.mg_of X G n__law_primes,
            b__law_primes := (F__law_primes.binds (ps := ["count"]) fun _ _ _ _ _ _ us hl => match us, hl with | [_], _ => rfl),
            a__law_names := f__law_names,
            d__law_names := PySem.W.fnOf "_law_names" "_law_names" (defArgs s__law_names) (defBody s__law_names) (defScope s__law_names) .none kV__law_names dc__law_names pm__law_names an__law_names cd__law_names ct__law_names,
            F__law_names := F__law_names,
            g__law_names := PySem.W.mg_of X G n__law_names,
            b__law_names := (F__law_names.binds (ps := []) fun _ _ _ _ _ _ us hl => match us, hl with | [], _ => rfl),
            a__law_block := f__law_block,
            d__law_block := PySem.W.fnOf "_law_block" "_law_block" (defArgs s__law_block) (defBody s__law_block) (defScope s__law_block) .none kV__law_block dc__law_block pm__law_block an__law_block cd__law_block ct__law_block,
            F__law_block := F__law_block,
            g__law_block := PySem.W.mg_of X G n__law_block,
            b__law_block := (F__law_block.binds (ps := ["name"]) fun _ _ _ _ _ _ us hl => match us, hl with | [_], _ => rfl),
            a__law_size := f__law_size,
            d__law_size := PySem.W.fnOf "_law_size" "_law_size" (defArgs s__law_size) (defBody s__law_size) (defScope s__law_size) .none kV__law_size dc__law_size pm__law_size an__law_size cd__law_size ct__law_size,
            F__law_size := F__law_size,
            g__law_size := PySem.W.mg_of X G n__law_size,
            b__law_size := (F__law_size.binds (ps := ["name"]) fun _ _ _ _ _ _ us hl => match us, hl with | [_], _ => rfl),
            a__law_chain := f__law_chain,
            d__law_chain := PySem.W.fnOf "_law_chain" "_law_chain" (defArgs s__law_chain) (defBody s__law_chain) (defScope s__law_chain) .none kV__law_chain dc__law_chain pm__law_chain an__law_chain cd__law_chain ct__law_chain,
            F__law_chain := F__law_chain,
            g__law_chain := PySem.W.mg_of X G n__law_chain,
            b__law_chain := (F__law_chain.binds (ps := ["name"]) fun _ _ _ _ _ _ us hl => match us, hl with | [_], _ => rfl),
            a__law_wrong := f__law_wrong,
            d__law_wrong := PySem.W.fnOf "_law_wrong" "_law_wrong" (defArgs s__law_wrong) (defBody s__law_wrong) (defScope s__law_wrong) .none kV__law_wrong dc__law_wrong pm__law_wrong an__law_wrong cd__law_wrong ct__law_wrong,
            F__law_wrong := F__law_wrong,
            g__law_wrong := PySem.W.mg_of X G n__law_wrong,
            b__law_wrong := (F__law_wrong.binds (ps := ["m"]) fun _ _ _ _ _ _ us hl => match us, hl with | [_], _ => rfl),
            a__law_refused := f__law_refused,
            d__law_refused := PySem.W.fnOf "_law_refused" "_law_refused" (defArgs s__law_refused) (defBody s__law_refused) (defScope s__law_refused) .none kV__law_refused dc__law_refused pm__law_refused an__law_refused cd__law_refused ct__law_refused,
            F__law_refused := F__law_refused,
            g__law_refused := PySem.W.mg_of X G n__law_refused,
            b__law_refused := (F__law_refused.binds (ps := ["name", "which"]) fun _ _ _ _ _ _ us hl => match us, hl with | [_, _], _ => rfl),
            a_law := fa,
            d_law := PySem.W.fnOf "law" "law" (defArgs s_law) (defBody s_law) (defScope s_law) .none kV_law dc_law pm_law an_law cd_law ct_law,
            F_law := F_law,
            g_law := PySem.W.mg_of X G n_law,
            b_law := (F_law.binds (ps := ["script"]) fun _ _ _ _ _ _ us hl => match us, hl with | [_], _ => rfl),
            a_SaltmillError := e_SaltmillError,
            g_SaltmillError := PySem.W.mg_of X G n_SaltmillError,
            xP_SaltmillError := x_SaltmillError,
            kP_SaltmillError := k_SaltmillError,
            bP_SaltmillError := b_SaltmillError,
            tP_SaltmillError := t_SaltmillError,
            hd_SaltmillError := h_SaltmillError,
            a_OctetError := e_OctetError,
            g_OctetError := PySem.W.mg_of X G n_OctetError,
            xP_OctetError := x_OctetError,
            kP_OctetError := k_OctetError,
            bP_OctetError := b_OctetError,
            tP_OctetError := t_OctetError,
            hd_OctetError := h_OctetError,
            a_ChoiceError := e_ChoiceError,
            g_ChoiceError := PySem.W.mg_of X G n_ChoiceError,
            xP_ChoiceError := x_ChoiceError,
            kP_ChoiceError := k_ChoiceError,
            bP_ChoiceError := b_ChoiceError,
            tP_ChoiceError := t_ChoiceError,
            hd_ChoiceError := h_ChoiceError,
            a_LengthError := e_LengthError,
            g_LengthError := PySem.W.mg_of X G n_LengthError,
            xP_LengthError := x_LengthError,
            kP_LengthError := k_LengthError,
            bP_LengthError := b_LengthError,
            tP_LengthError := t_LengthError,
            hd_LengthError := h_LengthError,
            sub_ChoiceError_SaltmillError := sub_ChoiceError_SaltmillError,
            sub_ChoiceError_ChoiceError := sub_ChoiceError_ChoiceError,
            sub_ChoiceError_LengthError := sub_ChoiceError_LengthError,
            X_ChoiceError := ⟨xg_ChoiceError, xk_ChoiceError, b_ChoiceError, h_ChoiceError, xa_ChoiceError, xn, xt, xm_ChoiceError⟩,
            t_LOW_64 := t_LOW_64,
            g_LOW_64 := PySem.W.mg_of X G n_LOW_64,
            a_NAMES := e_NAMES,
            g_NAMES := PySem.W.mg_of X G n_NAMES,
            s_NAMES := SM.sqT_k l_NAMES i_NAMES (by decide),
            a_BLOCK_LENGTHS := e_BLOCK_LENGTHS,
            g_BLOCK_LENGTHS := PySem.W.mg_of X G n_BLOCK_LENGTHS,
            e_BLOCK_LENGTHS_sha1 := ⟨_, _, _, l_BLOCK_LENGTHS, j_BLOCK_LENGTHS, n_BLOCK_LENGTHS_sha1, ⟨_, rfl⟩⟩,
            e_BLOCK_LENGTHS_sha224 := ⟨_, _, _, l_BLOCK_LENGTHS, j_BLOCK_LENGTHS, n_BLOCK_LENGTHS_sha224, ⟨_, rfl⟩⟩,
            e_BLOCK_LENGTHS_sha256 := ⟨_, _, _, l_BLOCK_LENGTHS, j_BLOCK_LENGTHS, n_BLOCK_LENGTHS_sha256, ⟨_, rfl⟩⟩,
            e_BLOCK_LENGTHS_sha384 := ⟨_, _, _, l_BLOCK_LENGTHS, j_BLOCK_LENGTHS, n_BLOCK_LENGTHS_sha384, ⟨_, rfl⟩⟩,
            e_BLOCK_LENGTHS_sha512 := ⟨_, _, _, l_BLOCK_LENGTHS, j_BLOCK_LENGTHS, n_BLOCK_LENGTHS_sha512, ⟨_, rfl⟩⟩,
            a_SIZES := e_SIZES,
            g_SIZES := PySem.W.mg_of X G n_SIZES,
            e_SIZES_sha1 := ⟨_, _, _, l_SIZES, j_SIZES, n_SIZES_sha1, ⟨_, rfl⟩⟩,
            e_SIZES_sha224 := ⟨_, _, _, l_SIZES, j_SIZES, n_SIZES_sha224, ⟨_, rfl⟩⟩,
            e_SIZES_sha256 := ⟨_, _, _, l_SIZES, j_SIZES, n_SIZES_sha256, ⟨_, rfl⟩⟩,
            e_SIZES_sha384 := ⟨_, _, _, l_SIZES, j_SIZES, n_SIZES_sha384, ⟨_, rfl⟩⟩,
            e_SIZES_sha512 := ⟨_, _, _, l_SIZES, j_SIZES, n_SIZES_sha512, ⟨_, rfl⟩⟩,
            a_SHA1_CHAIN := e_SHA1_CHAIN,
            g_SHA1_CHAIN := PySem.W.mg_of X G n_SHA1_CHAIN,
            s_SHA1_CHAIN := SM.sqT_k l_SHA1_CHAIN i_SHA1_CHAIN (by decide),
            t_LOW_32_families := t_LOW_32_families,
            g_LOW_32_families := PySem.W.mg_of X G n_LOW_32_families,
            m_ValueError := PySem.W.mg_none_of X G m_ValueError,
            kit_V := kit_V,
            g_isqrt := PySem.W.mg_of X G n_isqrt,
            a_Digest := e_Digest,
            g_Digest := PySem.W.mg_of X G n_Digest,
            a_Digest___init__ := f_Digest___init__,
            M_Digest := ⟨mk_Digest, in_Digest, fn_Digest, kp_Digest⟩,
            d_Digest___init__ := PySem.W.fnOf "__init__" "Digest.__init__" (defArgs s_Digest___init__) (defBody s_Digest___init__) (defScope s_Digest___init__) .none kV_Di dc_Di pm_Di an_Di cd_Di ct_Di,
            F_Digest___init__ := F_Di,
            b_Digest___init__ := (F_Di.binds (ps := ["self", "name"]) fun _ _ _ _ _ _ us hl => match us, hl with | [_, _], _ => rfl),
            m_abs := PySem.W.mg_none_of X G m_abs,
            m_all := PySem.W.mg_none_of X G m_all,
            m_bool := PySem.W.mg_none_of X G m_bool,
            m_int := PySem.W.mg_none_of X G m_int,
            m_isinstance := PySem.W.mg_none_of X G m_isinstance,
            m_len := PySem.W.mg_none_of X G m_len,
            m_range := PySem.W.mg_none_of X G m_range,
            m_tuple := PySem.W.mg_none_of X G m_tuple }, rfl, fun s u => .of_eq rfl, SM.tabIn_of n_primes l_primes rfl t_primes u_primes, v_primes⟩
theorem fin {l : PySem.W.OpenLaw} {q : Program} {w : World} {K : PySem.W.Frag} {h : Heap} {mg : Str → Option Value} {fa : Addr} {d : DefRec}
    (tab : ∀ (y : Str) (c P : Addr) (e : DefRec), (recsOf q).find? (fun e => e.name == y) = some e → PySem.W.tabIn K y = some (c, P) → PySem.W.CodeHd h c P ∧ h.get? P = some { cls := .none, data := .fields #[] })
    (hrec : (recsOf q).find? (fun e => e.name == ("primes" : Str)) = some d)
    (t : ∃ T : Txt w K mg, T.a_law = fa ∧ (∀ (s : Shared) (u : Value), BindsTo s T.d_law ⟨[u], []⟩ [("script", u)]) ∧ PySem.W.tabIn K "primes" = some (T.c_primes, T.P_primes) ∧ K.lookup T.P_primes = none) :
    LamX.LawAtS l w K (L2.CX l.prog w) 12 63 "script" mg fa h := by
  obtain ⟨T, rfl, hb, ht, hn⟩ := t
  obtain ⟨t1, t2⟩ := tab _ _ _ _ hrec ht
  refine ⟨T.d_law, [(T.c_primes, T.P_primes)], spLaw K T.P_primes, fun p hp => ?_, fun p hp => ?_, fun p hp => ?_, hb, fun H a ns hl _ hH hS => ?_, fun base hK hns TB => ?_⟩
  · cases List.mem_singleton.mp hp
    exact t2
  · cases List.mem_singleton.mp hp
    exact hn
  · cases List.mem_singleton.mp hp
    exact t1
  · exact ⟨a, ns, rfl, hS, hl, ⟨#[], hH _ (List.mem_singleton.mpr rfl), (show TriplesOk [] from True.intro)⟩, fun _ => rfl⟩
  · have TB1 := TB _ (List.mem_singleton.mpr rfl)
    have gPrimes := ok_primes (P := l.prog) (w := w) T ⟨TB1.1, TB1.2, TB1.3⟩
    have gSqf := ok_square_root_fraction (P := l.prog) (w := w) (base := base) T
    have gStart := ok_start_chain T gPrimes gSqf
    have gName := ok_check_name (P := l.prog) (w := w) (base := base) T
    have gBl := ok_block_length T gName
    have gDs := ok_digest_size T gName
    have gFirst := ok_first_chain T gName gStart
    have gComp := ok_compress T gName
    have gDig := ok_digest T gName
    have gNew := ok_Digest T gName
    have gDraws := ok_law_draws (P := l.prog) (w := w) (base := base) T
    have gTake := ok_law_take (P := l.prog) (w := w) (base := base) T
    have gSame := ok_law_same (P := l.prog) (w := w) (base := base) T
    have gRoot := ok_law_root (P := l.prog) (w := w) (base := base) T
    have gLP := ok_law_primes (P := l.prog) (w := w) (base := base) T
    have gNames := ok_law_names (P := l.prog) (w := w) (base := base) T
    have gBlock := ok_law_block (P := l.prog) (w := w) (base := base) T
    have gSize := ok_law_size (P := l.prog) (w := w) (base := base) T
    have gChain := ok_law_chain T gLP gRoot
    have gWrong := ok_law_wrong T gNames gTake
    have gRef := ok_law_refused T gBl gDs gFirst gComp gDig gNew
    exact ok_law T gDraws gNames gTake gBl gDs gBlock gSize gFirst gChain gSame gWrong gRef
end SK
open PySem PySem.W PyProof.Rows in
set_option maxRecDepth 100000 in
set_option maxHeartbeats 0 in
theorem PySem.Challenge.cw_saltmill_k07_names_and_chains_holds : PySem.Challenge.rw_saltmill_k07_names_and_chains.Holds := by
  w_on; o_law; k_head; (case hw => w_witness2)
  k_fill
  refine SM.walkTab (l := PySem.Challenge.rw_saltmill_k07_names_and_chains) (n := 63) (k := 12) (x := "script") rfl (by decide) rfl ⟨rfl, by decide, by decide⟩ (fun w h Y => PySem.W.kIn_of Y) ?F
  case F =>
    intro w mg fa h KX G hmg tab
    refine' SK.fin tab ?rec (SK.mkT KX G hmg ?q_n_primes ?q_l_primes ?q_r_primes ?q_k_primes ?q_t_primes ?q_u_primes ?q_v_primes ?q_n_square_root_fraction ?q_l_square_root_fraction ?q_r_square_root_fraction ?q_k_square_root_fraction ?q_n_start_chain ?q_l_start_chain ?q_r_start_chain ?q_k_start_chain ?q_n_check_name ?q_l_check_name ?q_r_check_name ?q_k_check_name ?q_n_block_length ?q_l_block_length ?q_r_block_length ?q_k_block_length ?q_n_digest_size ?q_l_digest_size ?q_r_digest_size ?q_k_digest_size ?q_n_first_chain ?q_l_first_chain ?q_r_first_chain ?q_k_first_chain ?q_n_compress ?q_l_compress ?q_r_compress ?q_k_compress ?q_n_digest ?q_l_digest ?q_r_digest ?q_k_digest ?q_n__law_draws ?q_l__law_draws ?q_r__law_draws ?q_k__law_draws ?q_n__law_take ?q_l__law_take ?q_r__law_take ?q_k__law_take ?q_n__law_same ?q_l__law_same ?q_r__law_same ?q_k__law_same ?q_n__law_root ?q_l__law_root ?q_r__law_root ?q_k__law_root ?q_n__law_primes ?q_l__law_primes ?q_r__law_primes ?q_k__law_primes ?q_n__law_names ?q_l__law_names ?q_r__law_names ?q_k__law_names ?q_n__law_block ?q_l__law_block ?q_r__law_block ?q_k__law_block ?q_n__law_size ?q_l__law_size ?q_r__law_size ?q_k__law_size ?q_n__law_chain ?q_l__law_chain ?q_r__law_chain ?q_k__law_chain ?q_n__law_wrong ?q_l__law_wrong ?q_r__law_wrong ?q_k__law_wrong ?q_n__law_refused ?q_l__law_refused ?q_r__law_refused ?q_k__law_refused ?q_n_law ?q_l_law ?q_r_law ?q_k_law ?q_n_SaltmillError ?q_x_SaltmillError ?q_k_SaltmillError ?q_b_SaltmillError ?q_t_SaltmillError ?q_h_SaltmillError ?q_n_OctetError ?q_x_OctetError ?q_k_OctetError ?q_b_OctetError ?q_t_OctetError ?q_h_OctetError ?q_n_ChoiceError ?q_x_ChoiceError ?q_k_ChoiceError ?q_b_ChoiceError ?q_t_ChoiceError ?q_h_ChoiceError ?q_n_LengthError ?q_x_LengthError ?q_k_LengthError ?q_b_LengthError ?q_t_LengthError ?q_h_LengthError ?q_sub_ChoiceError_SaltmillError ?q_sub_ChoiceError_ChoiceError ?q_sub_ChoiceError_LengthError ?q_xg_ChoiceError ?q_xk_ChoiceError ?q_xa_ChoiceError ?q_xm_ChoiceError ?q_xn ?q_xt ?q_n_LOW_64 ?q_n_NAMES ?q_l_NAMES ?q_i_NAMES ?q_n_BLOCK_LENGTHS ?q_l_BLOCK_LENGTHS ?q_j_BLOCK_LENGTHS ?q_n_BLOCK_LENGTHS_sha1 ?q_n_BLOCK_LENGTHS_sha224 ?q_n_BLOCK_LENGTHS_sha256 ?q_n_BLOCK_LENGTHS_sha384 ?q_n_BLOCK_LENGTHS_sha512 ?q_n_SIZES ?q_l_SIZES ?q_j_SIZES ?q_n_SIZES_sha1 ?q_n_SIZES_sha224 ?q_n_SIZES_sha256 ?q_n_SIZES_sha384 ?q_n_SIZES_sha512 ?q_n_SHA1_CHAIN ?q_l_SHA1_CHAIN ?q_i_SHA1_CHAIN ?q_n_LOW_32_families ?q_m_abs ?q_m_all ?q_m_bool ?q_m_int ?q_m_isinstance ?q_m_len ?q_m_range ?q_m_tuple ?q_m_ValueError ?q_kit_V ?q_n_isqrt ?q_n_Digest ?q_mk_Digest ?q_in_Digest ?q_fn_Digest ?q_kp_Digest ?q_l_Di ?q_r_Di ?q_k_Di)
    (case rec => exact rfl)
    (case q_n_primes => k_is)
    (case q_l_primes => k_is)
    (case q_r_primes => k_is)
    (case q_k_primes => k_is)
    (case q_t_primes => k_is)
    (case q_u_primes => exact rfl)
    (case q_v_primes => kernel_rfl)
    (case q_n_square_root_fraction => k_is)
    (case q_l_square_root_fraction => k_is)
    (case q_r_square_root_fraction => k_is)
    (case q_k_square_root_fraction => k_is)
    (case q_n_start_chain => k_is)
    (case q_l_start_chain => k_is)
    (case q_r_start_chain => k_is)
    (case q_k_start_chain => k_is)
    (case q_n_check_name => k_is)
    (case q_l_check_name => k_is)
    (case q_r_check_name => k_is)
    (case q_k_check_name => k_is)
    (case q_n_block_length => k_is)
    (case q_l_block_length => k_is)
    (case q_r_block_length => k_is)
    (case q_k_block_length => k_is)
    (case q_n_digest_size => k_is)
    (case q_l_digest_size => k_is)
    (case q_r_digest_size => k_is)
    (case q_k_digest_size => k_is)
    (case q_n_first_chain => k_is)
    (case q_l_first_chain => k_is)
    (case q_r_first_chain => k_is)
    (case q_k_first_chain => k_is)
    (case q_n_compress => k_is)
    (case q_l_compress => k_is)
    (case q_r_compress => k_is)
    (case q_k_compress => k_is)
    (case q_n_digest => k_is)
    (case q_l_digest => k_is)
    (case q_r_digest => k_is)
    (case q_k_digest => k_is)
    (case q_n__law_draws => k_is)
    (case q_l__law_draws => k_is)
    (case q_r__law_draws => k_is)
    (case q_k__law_draws => k_is)
    (case q_n__law_take => k_is)
    (case q_l__law_take => k_is)
    (case q_r__law_take => k_is)
    (case q_k__law_take => k_is)
    (case q_n__law_same => k_is)
    (case q_l__law_same => k_is)
    (case q_r__law_same => k_is)
    (case q_k__law_same => k_is)
    (case q_n__law_root => k_is)
    (case q_l__law_root => k_is)
    (case q_r__law_root => k_is)
    (case q_k__law_root => k_is)
    (case q_n__law_primes => k_is)
    (case q_l__law_primes => k_is)
    (case q_r__law_primes => k_is)
    (case q_k__law_primes => k_is)
    (case q_n__law_names => k_is)
    (case q_l__law_names => k_is)
    (case q_r__law_names => k_is)
    (case q_k__law_names => k_is)
    (case q_n__law_block => k_is)
    (case q_l__law_block => k_is)
    (case q_r__law_block => k_is)
    (case q_k__law_block => k_is)
    (case q_n__law_size => k_is)
    (case q_l__law_size => k_is)
    (case q_r__law_size => k_is)
    (case q_k__law_size => k_is)
    (case q_n__law_chain => k_is)
    (case q_l__law_chain => k_is)
    (case q_r__law_chain => k_is)
    (case q_k__law_chain => k_is)
    (case q_n__law_wrong => k_is)
    (case q_l__law_wrong => k_is)
    (case q_r__law_wrong => k_is)
    (case q_k__law_wrong => k_is)
    (case q_n__law_refused => k_is)
    (case q_l__law_refused => k_is)
    (case q_r__law_refused => k_is)
    (case q_k__law_refused => k_is)
    (case q_n_law => k_is)
    (case q_l_law => k_is)
    (case q_r_law => k_is)
    (case q_k_law => k_is)
    (case q_n_SaltmillError => k_is)
    (case q_x_SaltmillError => kernel_rfl)
    (case q_k_SaltmillError => k_is)
    (case q_b_SaltmillError => k_is)
    (case q_t_SaltmillError => k_is)
    (case q_h_SaltmillError => k_is)
    (case q_n_OctetError => k_is)
    (case q_x_OctetError => kernel_rfl)
    (case q_k_OctetError => k_is)
    (case q_b_OctetError => k_is)
    (case q_t_OctetError => k_is)
    (case q_h_OctetError => k_is)
    (case q_n_ChoiceError => k_is)
    (case q_x_ChoiceError => kernel_rfl)
    (case q_k_ChoiceError => k_is)
    (case q_b_ChoiceError => k_is)
    (case q_t_ChoiceError => k_is)
    (case q_h_ChoiceError => k_is)
    (case q_n_LengthError => k_is)
    (case q_x_LengthError => kernel_rfl)
    (case q_k_LengthError => k_is)
    (case q_b_LengthError => k_is)
    (case q_t_LengthError => k_is)
    (case q_h_LengthError => k_is)
    (case q_sub_ChoiceError_SaltmillError => k_is)
    (case q_sub_ChoiceError_ChoiceError => k_is)
    (case q_sub_ChoiceError_LengthError => k_is)
    (case q_xg_ChoiceError => k_is)
    (case q_xk_ChoiceError => k_is)
    (case q_xa_ChoiceError => k_is)
    (case q_xm_ChoiceError => k_is)
    (case q_xn => k_is)
    (case q_xt => k_is)
    (case q_n_LOW_64 => k_is)
    (case q_n_NAMES => k_is)
    (case q_l_NAMES => k_is)
    (case q_i_NAMES => exact (.cons ⟨_, rfl⟩ (.cons ⟨_, rfl⟩ (.cons ⟨_, rfl⟩ (.cons ⟨_, rfl⟩ (.cons ⟨_, rfl⟩ .nil))))))
    (case q_n_BLOCK_LENGTHS => k_is)
    (case q_l_BLOCK_LENGTHS => k_is)
    (case q_j_BLOCK_LENGTHS => exact ⟨⟨_, _, rfl, rfl⟩, ⟨_, _, rfl, rfl⟩, ⟨_, _, rfl, rfl⟩, ⟨_, _, rfl, rfl⟩, ⟨_, _, rfl, rfl⟩, True.intro⟩)
    (case q_n_BLOCK_LENGTHS_sha1 => k_is)
    (case q_n_BLOCK_LENGTHS_sha224 => k_is)
    (case q_n_BLOCK_LENGTHS_sha256 => k_is)
    (case q_n_BLOCK_LENGTHS_sha384 => k_is)
    (case q_n_BLOCK_LENGTHS_sha512 => k_is)
    (case q_n_SIZES => k_is)
    (case q_l_SIZES => k_is)
    (case q_j_SIZES => exact ⟨⟨_, _, rfl, rfl⟩, ⟨_, _, rfl, rfl⟩, ⟨_, _, rfl, rfl⟩, ⟨_, _, rfl, rfl⟩, ⟨_, _, rfl, rfl⟩, True.intro⟩)
    (case q_n_SIZES_sha1 => k_is)
    (case q_n_SIZES_sha224 => k_is)
    (case q_n_SIZES_sha256 => k_is)
    (case q_n_SIZES_sha384 => k_is)
    (case q_n_SIZES_sha512 => k_is)
    (case q_n_SHA1_CHAIN => k_is)
    (case q_l_SHA1_CHAIN => k_is)
    (case q_i_SHA1_CHAIN => exact (.cons ⟨_, rfl⟩ (.cons ⟨_, rfl⟩ (.cons ⟨_, rfl⟩ (.cons ⟨_, rfl⟩ (.cons ⟨_, rfl⟩ .nil))))))
    (case q_n_LOW_32_families => k_is)
    (case q_m_abs => k_is)
    (case q_m_all => k_is)
    (case q_m_bool => k_is)
    (case q_m_int => k_is)
    (case q_m_isinstance => k_is)
    (case q_m_len => k_is)
    (case q_m_range => k_is)
    (case q_m_tuple => k_is)
    (case q_m_ValueError => k_is)
    (case q_kit_V => kernel_rfl)
    (case q_n_isqrt => k_is)
    (case q_n_Digest => k_is)
    (case q_mk_Digest => k_is)
    (case q_in_Digest => k_is)
    (case q_fn_Digest => k_is)
    (case q_kp_Digest => k_is)
    (case q_l_Di => k_is)
    (case q_r_Di => k_is)
    (case q_k_Di => k_is)
