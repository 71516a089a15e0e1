import PyProof.Rows.All
import Wide.All
import OpenK.AllK
import Wide.FinOn
import HandS.Words
import HandS.AnyAll
import HandS.IsInst
import HandS.ForMost
import HandS.Style
import HandS.TupAny
import KE.KRevSl
import HandS.ForExc
import HandS.TupMul
import HandS.Wide
import HandS.WideBits
import HandS.Walk
import HandS.Zip
import HandS.Star
import HandS.ExcIs
import HandS.TryOnly
import HandS.EndTab
import HandS.More
import KE.KNest
import OpenK.KEqL
import PySem.Challenge.RW_saltmill_k02_numbers_of_octets
set_option Elab.async false
set_option linter.all false
set_option maxRecDepth 100000
set_option maxHeartbeats 4000000
/-! all(test for x in e), e a tuple or a list, the test any expression that calls -/
namespace SM
open PySem PySem.Spec PyProof.Rows L2 GxR

/-- what a value's class is, over the heap -/
def TyH (h : Heap) (v : V) (t : String) : Prop := match v with
  | .ref a => (t = "list" ∨ t = "tuple") ∧ ∃ o, h.get? a = some o ∧ o.cls = .type t
  | .int _ => t = "int"
  | .bl _ => t = "bool"
  | .str _ => t = "str"
  | .non => t = "NoneType"
  | _ => False
/-- .. over the abstract heap -/
def TyA (K : PySem.W.Frag) (H : Hp) (v : V) (t : String) : Prop := match v with
  | .ref a => (t = "list" ∧ ∃ xs, SqL K H a xs) ∨ (t = "tuple" ∧ ∃ xs, SqT K H a xs)
  | .int _ => t = "int"
  | .bl _ => t = "bool"
  | .str _ => t = "str"
  | .non => t = "NoneType"
  | _ => False
section
variable {X : Cx} {pins : List (Addr × Obj)} {σ : L2.St} {H : Hp} {s : Shared}
theorem tyH_of {v : V} {t : String} (I : Inv X pins σ H s) (h : TyA X.K H v t) : TyH s.heap v t := by
  cases v with
  | ref a =>
    rcases h with ⟨rfl, xs, h⟩ | ⟨rfl, xs, h⟩
    · obtain ⟨its, r, p, _⟩ := I.list h
      obtain ⟨o, e, c, _⟩ := p.isList
      exact ⟨.inl rfl, o, e, c⟩
    · obtain ⟨its, r, ⟨o, e, c, _⟩, _⟩ := I.tuple h
      exact ⟨.inr rfl, o, e, c⟩
  | _ => exact h
end
theorem TyH.keep {h h' : Heap} {v : V} {t : String} (x : TyH h v t) (k : ∀ a o, v = .ref a → h.get? a = some o → (∃ t, o.cls = .type t) → h'.get? a = some o) : TyH h' v t := by
  cases v with
  | ref a =>
    obtain ⟨z, o, e, c⟩ := x
    exact ⟨z, o, k a o rfl e ⟨_, c⟩, c⟩
  | _ => exact x

/-- the place where the test is worked out, its item u bound to x -/
structure InGen (X : Cx) (scope : Scope) (x : Str) (u : Value) (env : Env) (Ar : Around) (s : Shared) : Prop where
  quiet : Ar.handled = none
  deep : Ar.depth ≤ X.A.depth + 1
  wide : Ar.units ≤ X.A.units + 8
  inScope : env.scope = scope
  globs : env.globals = mainGlobals
  blts : env.builtins = builtinsNs
  base : ∀ b o, X.base.get? b = some o → s.heap.get? b = some o
  names : ∃ m : Str → Option Value, s.heap.Ns env.locals m ∧ m x = some u
/-- the test of each item among xs -/
def EltV (X : Cx) (scope : Scope) (x : Str) (elt : Expr) (pb : V → Bool) (xs : List V) : Prop :=
  ∀ v ∈ xs, ∀ (env : Env) (Ar : Around) (Er : Value → Shared → Prop) (u : Value) (t : String) (s : Shared), RelV v u → TyH s.heap v t → InGen X scope x u env Ar s → wpAny (model X.prog X.w) Ar (eval elt env) (fun y z => y = .bool (pb v) ∧ Keeps s z) Er s

/-- the truth at the j-th item -/
def truthAt (pb : V → Bool) (xs : List V) (j : Nat) : Bool := (xs[j]?.map pb).getD true
theorem truths (pb : V → Bool) : ∀ xs : List V, (List.range xs.length).all (truthAt pb xs) = xs.all pb
  | [] => rfl
  | x :: xs => by
    have tail : (fun j => truthAt pb (x :: xs) (j + 1)) = truthAt pb xs := funext fun _ => by simp [truthAt]
    have head : truthAt pb (x :: xs) 0 = pb x := by simp [truthAt]
    rw [List.length_cons, List.range_succ_eq_map, List.all_cons, List.all_map, head, List.all_cons, ← truths pb xs]
    exact congrArg (fun f => pb x && List.all (List.range xs.length) f) tail

section
variable {X : Cx} {pins : List (Addr × Obj)} {σ : L2.St} {H : Hp} {s : Shared}
/-- a value that is iterated: the iterator o is made at the heap's end, its items are those of the object at a -/
structure Feed (X : Cx) (s : Shared) (src : Value) (a : Addr) (its : Array Value) (o : Obj) (W : Nat → Heap → Prop) : Prop where
  made : ∀ {Q Er : Value → Shared → Prop}, Q (.ref s.heap.objs.size) { s with heap := s.heap.push o } → wpAny (model X.prog X.w) X.A (pyIter src) Q Er s
  there : ∃ u, s.heap.get? a = some u ∧ u.cls ≠ .none
  live : o.isFreed = false
  walks : ∀ Ar : Around, Ar.handled = none → Walks X.prog X.w Ar s.heap.objs.size [s.heap.objs.size, a] [s.heap.objs.size] its.size (fun i v => its[i]? = some v) W
  first : ∀ h : Heap, h.get? s.heap.objs.size = some o → (∀ u, s.heap.get? a = some u → h.get? a = some u) → W 0 h
theorem feed_tup {a : Addr} {its : Array Value} (t : s.heap.IsTuple a its) : ∃ o W, Feed X s (.ref a) a its o W := by
  obtain ⟨u, g, c, r⟩ := id t
  exact ⟨_, _, fun q => wpAny_pyIter_tuple t q, ⟨u, g, by rw [c]; simp⟩, rfl, fun _ q => Walks.tuple q _ _ (Nat.ne_of_lt (Heap.lt_size g)) its, fun _ e k => ⟨⟨_, e, rfl, rfl⟩, u, k u g, c, r⟩⟩
theorem feed_lst {a : Addr} {its : Array Value} (t : s.heap.IsList a its) : ∃ o W, Feed X s (.ref a) a its o W := by
  obtain ⟨u, g, c, r⟩ := id t
  exact ⟨_, _, fun q => wpAny_pyIter_list t q, ⟨u, g, by rw [c]; simp⟩, rfl, fun _ q => Walks.list q _ _ (Nat.ne_of_lt (Heap.lt_size g)) its, fun _ e k => ⟨⟨_, e, rfl, rfl⟩, u, k u g, c, r⟩⟩
theorem feed_of {a : Addr} {xs : List V} (I : Inv X pins σ H s) (q : SqT X.K H a xs ∨ SqL X.K H a xs) : ∃ (its : List Value) (o : Obj) (W : Nat → Heap → Prop), Vals xs its ∧ Feed X s (.ref a) a its.toArray o W := by
  rcases q with q | q
  · obtain ⟨its, r, t, _⟩ := I.tuple q
    obtain ⟨o, W, f⟩ := feed_tup (X := X) t
    exact ⟨its, o, W, r, f⟩
  · obtain ⟨its, r, t, _⟩ := I.list q
    obtain ⟨o, W, f⟩ := feed_lst (X := X) t.isList
    exact ⟨its, o, W, r, f⟩
/-- the code object of a generator expression: found in the def's table, or made and written there -/
theorem code_found {Ar : Around} {Er : Value → Shared → Prop} {Q : Value → Shared → Prop} {env : Env} {c P : Addr} {ps : Array Value} {gpos : Pos} {qual : Str} {scope : Scope} (hc : env.code = .ref c) (cd : PySem.W.CodeHd s.heap c P) (tb : s.heap.get? P = some { cls := .none, data := .fields ps }) (tr : TriplesOk ps.toList)
    (k : ∀ (v : Value) (h : Heap) (tk : Nat) (more : Array Value), Heap.ExtBut P s.heap h → s.heap.objs.size ≤ h.objs.size → h.get? P = some { cls := .none, data := .fields (ps ++ more) } → TriplesOk (ps ++ more).toList → Q v { s with heap := h, toks := tk }) :
    wpAny (model X.prog X.w) Ar (genexprCode env gpos qual scope) Q Er s := by
  by_cases z : ∃ v, codeAmong gpos ps.toList = some v
  · obtain ⟨v, z⟩ := z
    exact wpAny_genexprCode_hit hc (cd.code tb tr) z (k v s.heap s.toks #[] (Heap.ExtBut.refl _ _) (Nat.le_refl _) (by rw [Array.append_empty]; exact tb) (by rw [Array.append_empty]; exact tr))
  · have z' : codeAmong gpos ps.toList = none := Option.eq_none_iff_forall_ne_some.mpr fun v e => z ⟨v, e⟩
    exact wpAny_genexprCodeX hc (cd.code tb tr) (cd.tab tb) z' fun _ h tk x1 x2 x3 ⟨_, _, _, _, _, _, _, _, _, _, _, _, _, _, _, _, _, _, _, tr', _⟩ _ x6 _ => k _ h tk _ x1 (Nat.le_trans x2 (Nat.le_of_lt x3)) x6.2 tr'
/-- what a walk of the generator at g is: its truths are those of the test, and what it leaves -/
structure Ready (X : Cx) (pins : List (Addr × Obj)) (σ : L2.St) (H1 : Hp) (P : Addr) (xs : List V) (pb : V → Bool) (g : Addr) (s5 : Shared) (fp wr : List Addr) (G : Array GenState → Array GenState → Prop) (F : Nat → Value → Prop) (St : Nat → Shared → Prop) : Prop where
  walk : WalksS X.prog X.w X.A.in1 g fp wr G xs.length F St
  at0 : St 0 s5
  truth : TruthOf X.prog X.w X.A.in1 F (truthAt pb xs)
  left : ∀ s', Moved wr G s5 s' → ∃ H2, Tabbed P H1 H2 ∧ Inv X pins σ H2 s'
theorem gen_feed {c P : Addr} {elt iter : Expr} {x : Str} {px gpos : Pos} {scope : Scope} {pb : V → Bool} {te : TE} {k : Nat} {Q : Value → Shared → Prop} {R : List V → Hp → Prop}
    (room : Room k X.A) (TB : TabB X.base X.mg c P) (hcode : X.env.code = .ref c) (S : GenS X.env scope x) (hi : PE X iter te) (fold : ∀ v, genFold iter X.env v = pure v) (I : Inv X pins σ H s)
    (h : te σ H fun v H1 => ∃ (a : Addr) (xs : List V), v = .ref a ∧ (SqT X.K H1 a xs ∨ SqL X.K H1 a xs) ∧ (∀ v ∈ xs, ∃ t, TyA X.K H1 v t) ∧ (L2.Mod X.K X.mg X.base → EltV X scope x elt pb xs) ∧ TabG H1 P ∧ R xs H1)
    (goal : ∀ xs H1 g s5 fp wr G F St, R xs H1 → Ready X pins σ H1 P xs pb g s5 fp wr G F St → Q (.ref g) s5) :
    wpAny (model X.prog X.w) X.A (eval (.GeneratorExp elt [⟨.Name x px, iter, [], 0⟩] scope gpos) X.env) Q X.xe s := by
  refine wpAny_GeneratorExp_walksQD room.hd S.co (closure_ok S.free) S.cell S.dot S.loc S.kind (by have := room.dp; omega) ?_ fold
  refine thn (hi.run pins s σ H _ I h) fun src s1 ⟨_, H1, I1, rel, a, xs, e1, q, types, tests, ⟨ps, tracked, triples⟩, r⟩ => ?_
  subst e1
  cases rel
  obtain ⟨its, o, W, vals, feed⟩ := feed_of I1 q
  have same := vals.length
  have tab : s1.heap.get? P = some { cls := .none, data := .fields ps } := I1.hok P _ tracked
  obtain ⟨ua, ga, ca⟩ := feed.there
  have aP : a ≠ P := fun z => by
    rw [z, tab] at ga
    exact ca (by rw [← Option.some.inj ga])
  have ltP := Heap.lt_size tab
  have lta := Heap.lt_size ga
  refine feed.made ⟨I1.nolimit.push o, code_found hcode (TB.code.keeps fun b u e => Heap.get?_push_of_some _ (I1.bk b u e)) (Heap.get?_push_of_some _ tab) triples fun code h3 tk more ext size tab3 tr3 => ?_⟩
  -- what stands in h3
  have grown : s1.heap.objs.size + 1 ≤ h3.objs.size := by rw [← Heap.size_push s1.heap o]; exact size
  have stay : ∀ b u, b ≠ P → s1.heap.get? b = some u → h3.get? b = some u := fun b u n e => ext b u n (Heap.get?_push_of_some _ e)
  have notP : ∀ b u, X.base.get? b = some u → b ≠ P := fun b u e z => by
    have free := (I1.bs b u e).2
    rw [z, tracked] at free
    cases free
  have limit := I1.nolimit
  have cP : cStatics ≠ P ∧ cStatics < s1.heap.objs.size := by
    obtain ⟨_, ns, _⟩ := limit
    refine ⟨fun z => ?_, ns.lt⟩
    obtain ⟨oc, es, ep, g, d, _⟩ := ns
    rw [z, tab] at g
    rw [← Option.some.inj g] at d
    exact Data.noConfusion d
  obtain ⟨bm, ob, b1, b2, b3, b4, b5, b6, b7, b8⟩ := TB.bm
  have globals : h3.Ns X.env.globals X.mg := by rw [I1.ok.glob]; exact ((I1.mod.glob.keeps I1.bk).push o).extBut ext TB.gP
  refine wpAny_builtinsFor globals b1 b2 (stay _ _ b4 (I1.bk _ _ b5)) b6 b7 b8 ?_
  refine ⟨_, _, _, _, _, W, fun _ => true, fun i y => ∃ v, xs[i]? = some v ∧ y = .bool (pb v), rfl, feed.walks, ?_, ?_, (limit.push o).extBut ext cP.1, ?_, fun later keeps => ⟨?_, ?_⟩, ?_⟩
  · exact feed.first h3 (ext _ _ (Nat.ne_of_gt ltP) (Heap.get?_push_size _ feed.live)) fun u g => stay a u aP g
  · intro b hb
    show b < h3.objs.size
    simp only [List.mem_cons, List.not_mem_nil, or_false] at hb
    rcases hb with rfl | rfl
    · exact grown
    · exact Nat.lt_of_lt_of_le lta (Nat.le_of_succ_le grown)
  · simpa using Nat.ne_of_lt cP.2
  · -- no test of the clause
    intro _ _ _ _ _ _ _ _ _ _ _ _ _
    simp only [List.forIn_nil]
    exact wpAny_pure ⟨rfl, keeps_refl _⟩
  · -- the element
    intro Ar Er i v s2 m2 quiet deep wide item _ names bound rest
    have kept : ∀ b u, b ≠ P → s1.heap.get? b = some u → s2.heap.get? b = some u := fun b u n e => by
      have lt := Heap.lt_size e
      exact rest b (List.mem_range.mpr (Nat.lt_of_lt_of_le lt (Nat.le_of_succ_le grown))) (by simpa using Nat.ne_of_lt lt) u (keeps b u (stay b u n e))
    have item' : its[i]? = some v := by simpa using item
    have lt : i < xs.length := by have := (List.getElem?_eq_some_iff.mp item').1; omega
    have at_ : xs[i]? = some xs[i] := List.getElem?_eq_getElem lt
    obtain ⟨u, gu, ru⟩ := vals.get at_
    rw [item'] at gu
    rw [← Option.some.inj gu] at ru
    obtain ⟨t, ty⟩ := types _ (List.mem_of_getElem? at_)
    have ty2 : TyH s2.heap xs[i] t := (tyH_of I1 ty).keep fun b ob _ g ⟨_, c⟩ => kept b ob (fun z => by
      rw [z, tab] at g
      rw [← Option.some.inj g] at c
      exact Value.noConfusion c) g
    exact wpAny_mono (tests I1.mod _ (List.mem_of_getElem? at_) _ Ar Er v t s2 ru ty2 ⟨quiet, deep, wide, rfl, I1.ok.glob, rfl, fun b ob g => kept b ob (notP b ob g) (I1.bk b ob g), m2, names, bound⟩) (fun y z ⟨y1, y2⟩ => ⟨⟨_, at_, y1⟩, y2⟩) fun _ _ e => e
  · intro g h5 tk5 gs bare _ _ kept5 walk at0
    have every : passing (fun _ => true) its.toArray.size 0 = List.range xs.length := by rw [GxR.passing_true, List.size_toArray, same]
    rw [every, List.length_range] at walk
    refine goal xs H1 g _ _ _ _ _ _ r ⟨walk.in4_1, at0, ?_, fun s' moved => ?_⟩
    · rintro j y z Qz Ez ⟨i, hij, v, gv, rfl⟩ qz
      have ei : i = j := by
        obtain ⟨_, ej⟩ := List.getElem?_eq_some_iff.mp hij
        simpa using ej.symm
      subst ei
      have qz' : Qz (truthAt pb xs i) z := qz
      simp only [truthAt, gv, Option.map_some, Option.getD_some] at qz'
      exact wpAny_truthy_bool qz'
    · have outside : ∀ b u, s1.heap.get? b = some u → b ∉ h3.objs.size :: [s1.heap.objs.size] := fun b u e z => by
        have lt := Heap.lt_size e
        simp only [List.mem_cons, List.not_mem_nil, or_false] at z
        have below : b < h3.objs.size := Nat.lt_of_lt_of_le lt (Nat.le_of_succ_le grown)
        exact z.elim (Nat.ne_of_lt below) (Nat.ne_of_lt lt)
      have J := inv_tab (more := more) (h' := s'.heap) (g' := s'.gens) (d' := s'.drawn) (t' := s'.toks) I1 tracked (fun b u n e => moved.heap b u (outside b u e) (kept5 b u (stay b u n e))) (moved.heap P _ (outside P _ tab) (kept5 P _ tab3)) (AllBare.movedS (I1.bare.push bare) moved)
      rw [sh_eta s1 s' moved.os] at J
      exact ⟨_, ⟨⟨_, upd_same, tr3⟩, fun b n => upd_ne n⟩, J⟩

/-- all(test for x in e), e a tuple or a list -/
def tAllV (X : Cx) (scope : Scope) (x : Str) (elt : Expr) (P : Addr) (pb : V → Bool) (te : TE) : TE := fun σ H Q => te σ H fun v H1 => ∃ (a : Addr) (xs : List V), v = .ref a ∧ (SqT X.K H1 a xs ∨ SqL X.K H1 a xs) ∧ (∀ v ∈ xs, ∃ t, TyA X.K H1 v t) ∧ (L2.Mod X.K X.mg X.base → EltV X scope x elt pb xs) ∧ TabG H1 P ∧
  ∀ H2, Tabbed P H1 H2 → Q (.bl (xs.all pb)) H2
theorem pe_allV {c P : Addr} {elt iter : Expr} {x : Str} {px p pos gpos : Pos} {scope : Scope} {pb : V → Bool} {te : TE} {k : Nat}
    (room : Room k X.A) (hg : Gl X "all") (hm : X.mg "all" = none) (hb : bootBuiltins "all" = some (.builtin "all")) (TB : TabB X.base X.mg c P) (hcode : X.env.code = .ref c) (S : GenS X.env scope x) (hi : PE X iter te) (fold : ∀ v, genFold iter X.env v = pure v)
    (stars : starEach [.GeneratorExp elt [⟨.Name x px, iter, [], 0⟩] scope gpos] X.env = (false, eval (.GeneratorExp elt [⟨.Name x px, iter, [], 0⟩] scope gpos) X.env) :: starEach [] X.env := by rfl) :
    PE X (.Call (.Name "all" p) [.GeneratorExp elt [⟨.Name x px, iter, [], 0⟩] scope gpos] [] pos) (tAllV X scope x elt P pb te) := by
  constructor
  intro pins s σ H Q I h
  have whole : wpAny (model X.prog X.w) X.A (eval (.GeneratorExp elt [⟨.Name x px, iter, [], 0⟩] scope gpos) X.env) (fun v z => wpAny (model X.prog X.w) X.A (call (.builtin "all") [v]) (EP X pins σ Q) X.xe z) X.xe s :=
    gen_feed (R := fun xs H1 => ∀ H2, Tabbed P H1 H2 → Q (.bl (xs.all pb)) H2) room TB hcode S hi fold I h fun xs H1 g z fp wr G F St r ready =>
      call_all_walkS (ready.walk.self 0 _ _ _ ready.at0 ⟨g, fp, wr, G, _, F, St, _, rfl, ready.walk, ready.at0, ready.truth, fun s' moved =>
        let ⟨H2, t, J⟩ := ready.left s' moved
        ⟨.bl _, H2, J, rfl, by rw [truths pb xs]; exact r H2 t⟩⟩)
  refine wpAny_Call_Name_kw (ld_blt I hg hm hb (PyProof.Rows.callWith_builtin1 ?_ stars rfl))
  rw [stars]
  exact Calls.spliced_cons (wpAny_mono whole (fun _ _ q => Calls.spliced_nil q) fun _ _ e => e)
end
end SM
namespace SM
open PySem PySem.Spec PyProof.Rows L2 HT
/-! ### a tuple walked backwards by its slice -/
section
variable {pr : Program} {wd : World} {Ar : Around} {Ex : Value → Shared → Prop} {st : Shared}
/-- the slice with a step alone, over n items, step −1: from the last place, n places -/
theorem back_places {sl : Addr} {step : Value} {n : Nat} {Post : Int × Int × Nat → Shared → Prop} (at_ : st.heap.IsSliceOf sl .none .none step) (one : IsPart step (some (-1))) (post : Post ((n : Int) - 1, -1, n) st) :
    wpAny (model pr wd) Ar (Builtin.Slice.sliceApplied (.ref sl) (pure (n : Int))) Post Ex st := by
  have places : Builtin.Slice.slicePlaces ((n : Int) - 1) (-1) (-1) = n := by simp [Builtin.Slice.slicePlaces]; omega
  have from_ : Builtin.Slice.sliceAdjust none none (-1) (n : Int) = ((n : Int) - 1, -1) := by simp [Builtin.Slice.sliceAdjust]
  have three : ∀ {R : Value × Value × Value → Shared → Prop}, R (.none, .none, step) st → wpAny (model pr wd) Ar (Builtin.Slice.sliceFields (.ref sl)) R Ex st := fun r => by
    obtain ⟨ob, g, _, fs⟩ := at_
    exact wpAny_bind (wpAny_field g fs (x := .none) rfl (wpAny_bind (wpAny_field g fs (x := .none) rfl (wpAny_bind (wpAny_field g fs (x := step) rfl (wpAny_pure r))))))
  have whole : wpAny (model pr wd) Ar (pure ((n : Int) - 1, (-1 : Int), Builtin.Slice.slicePlaces ((n : Int) - 1) (-1) (-1)) : Sem (Int × Int × Nat)) Post Ex st := wpAny_pure (by rw [places]; exact post)
  unfold Builtin.Slice.sliceApplied
  refine wpAny_bind (three (wpAny_bind (slicePart_ one ?_)))
  change wpAny _ _ (if ((-1 : Int) == 0) = true then _ else _) _ _ st
  simp only [show ((-1 : Int) == 0) = false from rfl, Bool.false_eq_true, if_false]
  refine wpAny_bind (slicePart_none (wpAny_bind (slicePart_none (wpAny_bind (wpAny_pure ?_)))))
  change wpAny _ _ (match Builtin.Slice.sliceAdjust none none (-1) (n : Int) with | (lo, hi) => pure (lo, (-1 : Int), Builtin.Slice.slicePlaces lo hi (-1))) _ _ st
  rw [from_]
  exact whole
theorem filterMap_on {α β : Type} {f g : α → Option β} {l : List α} (same : ∀ a ∈ l, f a = g a) : l.filterMap f = l.filterMap g := by
  induction l with
  | nil => rfl
  | cons a l ih => simp only [List.filterMap_cons, same a (List.mem_cons_self ..), ih fun b hb => same b (List.mem_cons_of_mem _ hb)]
/-- the items at the places n−1, .., 0 -/
theorem back_items (xs : Array Value) : ((List.range xs.size).filterMap fun (m : Nat) => xs[((xs.size : Int) - 1 + (m : Int) * (-1)).toNat]?) = xs.toList.reverse := by
  have turn : (List.range xs.size).filterMap (fun (m : Nat) => xs[((xs.size : Int) - 1 + (m : Int) * (-1)).toNat]?) = (List.range xs.size).filterMap (fun m => xs[xs.size - 1 - m]?) :=
    filterMap_on fun m hm => by rw [show ((xs.size : Int) - 1 + (m : Int) * (-1)).toNat = xs.size - 1 - m by have := List.mem_range.mp hm; omega]
  have maps : (List.range xs.size).filterMap (fun m => xs[xs.size - 1 - m]?) = ((List.range xs.size).map fun k => xs.size - 1 - k).filterMap (fun k => xs[k]?) := (List.filterMap_map ..).symm
  rw [turn, maps, PySem.W.krv_range, List.filterMap_reverse, PySem.W.krv_all]
/-- t at a slice object: a new tuple of the items at the places, when they are not all of it in their order -/
theorem tup_at_slice {t sl : Addr} {xs : Array Value} {lo step : Int} {k : Nat} {picked : List Value} {Post : Value → Shared → Prop} (tup : IsTup st.heap t xs) (isSl : st.TypeIs (.ref sl) "slice")
    (places : ∀ (Ai : Around) {R : Int × Int × Nat → Shared → Prop}, R (lo, step, k) st → wpAny (model pr wd) Ai (Builtin.Slice.sliceApplied (.ref sl) (pure (xs.size : Int))) R Ex st) (part : (lo == 0 && step == 1 && k == xs.size) = false)
    (items : ((List.range k).filterMap fun (m : Nat) => xs[(lo + (m : Int) * step).toNat]?) = picked) (fits : picked.toArray.size ≤ sizeLine) (post : Post (.ref st.heap.objs.size) { st with heap := st.heap.push { cls := .type "tuple", data := .seq picked.toArray } }) :
    wpAny (model pr wd) Ar (getItem (.ref t) (.ref sl)) Post Ex st := by
  have made : ∀ (Ai : Around) {R : Value → Shared → Prop}, R (.ref st.heap.objs.size) { st with heap := st.heap.push { cls := .type "tuple", data := .seq picked.toArray } } → wpAny (model pr wd) Ai (Builtin.Tuple.tupleExact picked.toArray) R Ex st := fun _ _ r => wpAny_newObj_type r fits
  have body : wpAny (model pr wd) Ar.in1 (Builtin.«tuple.__getitem__» ⟨[.ref t, .ref sl], []⟩) (fun fin s' => ∃ v, fin = .done (.ret v) ∧ Post v s') Ex st := by
    change wpAny _ _ (Builtin.Tuple.tupleItemsOf (.ref t) >>= _) _ _ st
    refine wpAny_bind (tupleItemsOf_ tup (wpAny_bind (wpAny_typeOf isSl ?_)))
    simp only [show (Value.type "slice" == Value.type "slice") = true from by decide, if_true]
    refine wpAny_bind (places _ ?_)
    simp only [part, items, Bool.false_eq_true, if_false]
    exact wpAny_bind (made _ (wpAny_pure ⟨_, rfl, post⟩))
  unfold getItem
  refine wpAny_holding (wpAny_bind (wpAny_sequenceKey tup.typeIs (by decide) (wpAny_bind ?_)))
  exact wpAny_callSpecial?_slot (name := Str.ofString "__getitem__") tup.typeIs PyProof.Rows.slot_tuple_getitem
    (wpAny_call_entry PyProof.Rows.slot_tuple_getitem tup.typeIs PyProof.Rows.entry_tuple_getitem (wpAny_mono body (fun _ _ ⟨v, e, p⟩ => ⟨v, e, wpAny_pure p⟩) fun _ _ e => e) (PyProof.Rows.args_tuple_getitem _ _))
end
section
variable {X : Cx}
/-- what x[::step] is asked to be, over the abstract heap: the slice object is made -/
def StepR (X : Cx) (r : V → Option Int → Hp → VK → Prop) : Prop :=
  ∀ (ps : List (Addr × Obj)) (s : Shared) (σ : L2.St) (H : Hp) (x : V) (v step : Value) (o : Option Int) (sl : Addr) (Q : VK), Inv X ps σ H s → RelV x v → s.heap.IsSliceOf sl .none .none step → IsPart step o → r x o H Q →
    ∃ T id, typeLookup (.type T) "__getitem__" = pure (some (.builtin id)) ∧ s.TypeIs v T ∧ wpAny (model X.prog X.w) X.A (getItem v (.ref sl)) (EP X ps σ Q) X.xe s
theorem part_none {ps : List (Addr × Obj)} {σ : L2.St} {H : Hp} {s : Shared} {R : Value → Shared → Prop} {Er : Value → Shared → Prop} {env : Env} (h : R .none s) : wpAny (model X.prog X.w) X.A (evalPart none env) R Er s := by
  rw [evalPart_none]
  exact wpAny_pure h
theorem pe_step {e : Expr} {stx : Option Expr} {te : TE} {ts : TO} {r : V → Option Int → Hp → VK → Prop} {pos pos' : Pos} (R : StepR X r) (he : PE X e te) (hs : PO X stx ts) (hop : ∀ v sl : Value, subscripted (.Slice none none stx pos') false v sl = operate [v, sl] (getItem v sl)) :
    PE X (.Subscript e (.Slice none none stx pos') pos) (fun σ H Q => te σ H fun x H1 => ts σ H1 fun o H2 => r x o H2 Q) := by
  constructor
  intro ps s σ H Q I h
  refine Subscript_ (thn (he.run ps s σ H _ I h) fun v sa ⟨x, Ha, Ia, rx, qa⟩ => wpAny_Slice ?_)
  refine part_none (X := X) (ps := ps) (σ := σ) (H := H) (part_none (X := X) (ps := ps) (σ := σ) (H := H) (thn (hs.run ps sa σ Ha _ Ia qa) fun step sb ⟨o, Hb, Ib, po, qb⟩ => ?_))
  have Ic : Inv X ps σ Hb { sb with heap := sb.heap.push { cls := .type "slice", data := .fields #[.none, .none, step] } } := Ib.kept (t' := sb.toks) fun _ _ => Heap.get?_push_of_some _
  obtain ⟨T, id, hT, tv, run⟩ := R ps _ σ Hb x v step o sb.heap.objs.size Q Ic rx (Heap.IsSliceOf.new ..) po qb
  change wpAny _ _ (subscriptTail e (.Slice none none stx pos') v (.ref sb.heap.objs.size)) _ _ _
  exact tail_any (ops := [v, .ref sb.heap.objs.size]) tv hT run (hop _ _)
/-- t[::-1], t a tuple -/
theorem step_tup : StepR X (fun x o H Q => o = some (-1) ∧ ∃ a xs, x = .ref a ∧ SqT X.K H a xs ∧ ∀ p, H p = none → Q (.ref p) (upd H p (.tup xs.reverse))) := by
  rintro ps s σ H x v step o sl Q I rx isl po ⟨rfl, a, xs, rfl, hx, q⟩
  cases rx
  obtain ⟨its, rel, tup, small⟩ := I.tuple hx
  have tsl : s.TypeIs (.ref sl) "slice" := let ⟨ob, g, c, _⟩ := isl; ⟨ob, g, c⟩
  have len : its.length = xs.length := rel.length.symm
  refine ⟨_, _, PyProof.Rows.slot_tuple_getitem.lookup, tup.typeIs, tup_at_slice (lo := (its.toArray.size : Int) - 1) (step := -1) (k := its.toArray.size) tup tsl (fun _ _ => back_places isl po) (by simp) (back_items _) ?_ ?_⟩
  · simp only [List.size_toArray, List.length_reverse]
    omega
  · refine ⟨.ref s.heap.objs.size, _, I.laid (t' := s.toks) (o := .tup xs.reverse) (fun _ _ => Heap.get?_push_of_some _) (Nat.le_refl _) ⟨by simpa using small, its.reverse, rel.reverse, IsTup.new _ _⟩, rfl, q _ (I.hok.fresh (Nat.le_refl _))⟩
def tRevT (K : PySem.W.Frag) (te : TE) : TE := fun σ H Q => te σ H fun x H1 => ∃ a xs, x = .ref a ∧ SqT K H1 a xs ∧ ∀ p, H1 p = none → Q (.ref p) (upd H1 p (.tup xs.reverse))
theorem pe_revT {e : Expr} {te : TE} {k : Nat} {p1 p2 p3 pos : Pos} (he : PE X e te) : PE X (.Subscript e (.Slice none none (some (.UnaryOp .USub (.Constant (.int 1) k p1) p2)) p3) pos) (tRevT X.K te) := by
  constructor
  intro ps s σ H Q I h
  refine (pe_step step_tup he (po_some (pe_un un_neg pe_int)) (fun _ _ => by with_unfolding_all rfl)).run ps s σ H Q I ?_
  have same : (fun (x : V) (H1 : Hp) => ∃ a xs, x = .ref a ∧ SqT X.K H1 a xs ∧ ∀ p, H1 p = none → Q (.ref p) (upd H1 p (.tup xs.reverse))) =
      fun x H1 => tPart (tUn (rU fun i => .int (-i)) (tC (.int 1))) σ H1 fun o H2 => o = some (-1) ∧ ∃ a xs, x = .ref a ∧ SqT X.K H2 a xs ∧ ∀ p, H2 p = none → Q (.ref p) (upd H2 p (.tup xs.reverse)) :=
    funext fun _ => funext fun _ => propext ⟨fun r => ⟨1, rfl, -1, rfl, rfl, r⟩, fun ⟨i, e1, j, e2, _, r⟩ => r⟩
  exact same ▸ h
end
end SM
namespace SM
open PySem PySem.Spec PyProof.Rows L2 GxR
/-! ### is_octet of one item -/
def isOct : V → Bool
  | .int i => decide (0 ≤ i ∧ i ≤ 255)
  | _ => false
/-- what isinstance asks of such a value -/
theorem kitH {K : PySem.W.Frag} {h : Heap} {v : V} {u : Value} {t : String} (rv : RelV v u) (ty : TyH h v t) : ∃ P : Heap → Prop, PySem.W.KitX K u (.type t) P ∧ P h ∧ u ≠ .builtin "__main__.__loader__#opaque" := by
  cases v with
  | ref a =>
    cases rv
    obtain ⟨z, o, e, c⟩ := ty
    rcases z with rfl | rfl
    · exact ⟨_, PySem.W.kitx_list, ⟨o, e, c⟩, fun z => nomatch z⟩
    · exact ⟨_, PySem.W.kitx_tuple, ⟨o, e, c⟩, fun z => nomatch z⟩
  | int i =>
    obtain ⟨tk, rfl⟩ := rv
    cases ty
    exact ⟨_, PySem.W.kitx_int, True.intro, fun z => nomatch z⟩
  | bl b =>
    cases rv
    cases ty
    exact ⟨_, PySem.W.kitx_bool, True.intro, fun z => nomatch z⟩
  | str x =>
    obtain ⟨tk, rfl⟩ := rv
    cases ty
    exact ⟨_, PySem.W.kitx_str, True.intro, fun z => nomatch z⟩
  | non =>
    cases rv
    cases ty
    exact ⟨_, PySem.W.kitx_none, True.intro, fun z => nomatch z⟩
  | byt b => exact False.elim ty
  | flt b => exact False.elim ty
  | ty n => exact False.elim ty
/-- isinstance(v, int), isinstance(v, bool) -/
def isI (t : String) : Bool := t == "int" || t == "bool"
theorem kit_int {K : PySem.W.Frag} {h : Heap} {v : V} {t : String} (ty : TyH h v t) : PySem.W.kitOne K (.type t) (.type "int") = some (isI t) := by
  cases v with
  | ref a => obtain ⟨z, _⟩ := ty; rcases z with rfl | rfl <;> exact kit_ty (by decide +kernel)
  | int i => cases ty; exact kit_ty (by decide +kernel)
  | bl b => cases ty; exact kit_ty (by decide +kernel)
  | str x => cases ty; exact kit_ty (by decide +kernel)
  | non => cases ty; exact kit_ty (by decide +kernel)
  | byt b => exact False.elim ty
  | flt b => exact False.elim ty
  | ty n => exact False.elim ty
theorem kit_bool {K : PySem.W.Frag} {h : Heap} {v : V} {t : String} (ty : TyH h v t) : PySem.W.kitOne K (.type t) (.type "bool") = some (t == "bool") := by
  cases v with
  | ref a => obtain ⟨z, _⟩ := ty; rcases z with rfl | rfl <;> exact kit_ty (by decide +kernel)
  | int i => cases ty; exact kit_ty (by decide +kernel)
  | bl b => cases ty; exact kit_ty (by decide +kernel)
  | str x => cases ty; exact kit_ty (by decide +kernel)
  | non => cases ty; exact kit_ty (by decide +kernel)
  | byt b => exact False.elim ty
  | flt b => exact False.elim ty
  | ty n => exact False.elim ty
/-- the module's facts over a heap -/
structure At (K : PySem.W.Frag) (mg : Str → Option Value) (h : Heap) : Prop where
  kin : K.In h
  glob : h.Ns mainGlobals mg
  blt : ∃ mb, h.Ns builtinsNs mb ∧ ∀ x : Str, x ≠ "__name__" → mb x = bootBuiltins x
  lim : h.NoLimit
theorem At.keeps {K : PySem.W.Frag} {mg : Str → Option Value} {h h' : Heap} (a : At K mg h) (k : ∀ b o, h.get? b = some o → h'.get? b = some o) : At K mg h' :=
  ⟨a.kin.keeps k, a.glob.keeps k, let ⟨mb, x, y⟩ := a.blt; ⟨mb, x.keeps k, y⟩, a.lim.keeps k⟩
theorem at_of {K : PySem.W.Frag} {mg : Str → Option Value} {base h : Heap} (M : Mod K mg base) (k : ∀ b o, base.get? b = some o → h.get? b = some o) : At K mg h :=
  ⟨M.kin.keeps k, M.glob.keeps k, let ⟨mb, x, y⟩ := M.blt; ⟨mb, x.keeps k, y⟩, M.nolimit.keeps k⟩
section
variable {P : Program} {w : World} {A : Around} {E : Value → Shared → Prop} {s : Shared} {K : PySem.W.Frag} {mg : Str → Option Value} {env : Env}
theorem nm_glob {x : Str} {u : Value} {pos : Pos} {Q : Value → Shared → Prop} (a : At K mg s.heap) (hk : env.scope.kind = .function) (hge : env.globals = mainGlobals) (hg : env.kindOf x = some .globalImplicit) (hm : mg x = some u) (h : Q u s)
    (hd : (x == ("__debug__" : Str)) = false := by decide) : wpAny (model P w) A (eval (.Name x pos) env) Q E s :=
  Calls.Name_function_global hk hg (Calls.loadGlobal_global (by rw [hge]; exact a.glob) hm h) hd
theorem nm_blt {x : Str} {u : Value} {pos : Pos} {Q : Value → Shared → Prop} (a : At K mg s.heap) (hk : env.scope.kind = .function) (hge : env.globals = mainGlobals) (hbe : env.builtins = builtinsNs) (hg : env.kindOf x = some .globalImplicit) (hm : mg x = none) (hv : bootBuiltins x = some u) (h : Q u s)
    (hn : x ≠ "__name__" := by decide) (hd : (x == ("__debug__" : Str)) = false := by decide) : wpAny (model P w) A (eval (.Name x pos) env) Q E s := by
  obtain ⟨mb, h1, h2⟩ := a.blt
  exact Calls.Name_function_global hk hg (Calls.loadGlobal_builtin (by rw [hge]; exact a.glob) hm (by rw [hbe]; exact h1) ((h2 x hn).trans hv) h) hd
theorem nm_loc {x : Str} {u : Value} {pos : Pos} {m : Str → Option Value} {Q : Value → Shared → Prop} (hk : env.scope.kind = .function) (hl : env.kindOf x = some .local) (hn : s.heap.Ns env.locals m) (hm : m x = some u) (h : Q u s)
    (hd : (x == ("__debug__" : Str)) = false := by decide) : wpAny (model P w) A (eval (.Name x pos) env) Q E s := wpAny_Name (wpAny_loadName_local hk hl hn hm h) hd
/-- isinstance(x, T) of a local name, T a built-in type -/
theorem isi_at {x T : Str} {tn : String} {v : V} {u : Value} {t : String} {b : Bool} {m : Str → Option Value} {p1 p2 p3 p4 : Pos} {Q : Value → Shared → Prop} (a : At K mg s.heap) (hk : env.scope.kind = .function) (hge : env.globals = mainGlobals) (hbe : env.builtins = builtinsNs)
    (hi : env.kindOf "isinstance" = some .globalImplicit) (mi : mg "isinstance" = none) (hT : env.kindOf T = some .globalImplicit) (mT : mg T = none) (bT : bootBuiltins T = some (.type tn)) (hx : env.kindOf x = some .local) (hn : s.heap.Ns env.locals m) (hm : m x = some u) (rv : RelV v u) (ty : TyH s.heap v t)
    (e : PySem.W.kitOne K (.type t) (.type tn) = some b) (h : ∀ tk, Q (.bool b) { s with toks := tk })
    (nT : T ≠ "__name__" := by decide) (dT : (T == ("__debug__" : Str)) = false := by decide) (dx : (x == ("__debug__" : Str)) = false := by decide)
    (h1 : starEach [.Name x p2, .Name T p3] env = (false, eval (.Name x p2) env) :: starEach [.Name T p3] env := by rfl) (h2 : starEach [.Name T p3] env = (false, eval (.Name T p3) env) :: starEach [] env := by rfl) (hpl : (backTo p4 (starEach [.Name T p3] env)).any (·.1) = false := by rfl) :
    wpAny (model P w) A (eval (.Call (.Name "isinstance" p1) [.Name x p2, .Name T p3] [] p4) env) Q E s := by
  refine wpAny_Call_Name_kw (nm_blt a hk hge hbe hi mi (by decide +kernel : bootBuiltins "isinstance" = some (.builtin "isinstance")) ?_)
  refine PyProof.Rows.callWith_builtin1 ?_ h1 hpl
  rw [h1]
  show wpAny _ _ (spliced ((false, eval (.Name x p2) env) :: backTo p4 (starEach [.Name T p3] env))) _ _ s
  refine Calls.spliced_cons (nm_loc hk hx hn hm ?_ dx)
  rw [h2]
  show wpAny _ _ (spliced ((false, eval (.Name T p3) env) :: backTo p4 (starEach [] env))) _ _ s
  refine Calls.spliced_cons (nm_blt a hk hge hbe hT mT bT (Calls.spliced_nil ?_) nT dT)
  obtain ⟨PP, Z, p, hne⟩ := kitH (K := K) rv ty
  exact PySem.W.kia_one Z a.kin p e hne h
end
/-- the text of is_octet -/
def octBody (p1 p2 p3 p4 p5 p6 p7 p8 p9 p10 p11 p12 p13 p14 p15 : Pos) (k1 k2 : Nat) : List Stmt :=
  [.Return (some (.BoolOp .And [.Call (.Name "isinstance" p1) [.Name "value" p2, .Name "int" p3] [] p4, .UnaryOp .Not (.Call (.Name "isinstance" p5) [.Name "value" p6, .Name "bool" p7] [] p8) p9,
    .Compare (.Constant (.int 0) k1 p10) [.LtE, .LtE] [.Name "value" p11, .Constant (.int 255) k2 p12] p13] p14)) p15]
section
variable {P : Program} {w : World} {A : Around} {s : Shared} {K : PySem.W.Frag} {mg : Str → Option Value}
theorem code_isoct {st : Stmt} {f : Addr} {fd : FuncData} {p1 p2 p3 p4 p5 p6 p7 p8 p9 p10 p11 p12 p13 p14 p15 : Pos} {k1 k2 : Nat} {v : V} {u : Value} {t : String} (F : Fun K "is_octet" "is_octet" st f fd) (hb : defBody st = octBody p1 p2 p3 p4 p5 p6 p7 p8 p9 p10 p11 p12 p13 p14 p15 k1 k2)
    (S : FnScope ["value"] ["value"] (defScope st)) (bs : Binds K fd ["value"] []) (sv : (defScope st).names.lookup ("value" : Str) = some .local) (si : (defScope st).names.lookup ("isinstance" : Str) = some .globalImplicit) (s1 : (defScope st).names.lookup ("int" : Str) = some .globalImplicit) (s2 : (defScope st).names.lookup ("bool" : Str) = some .globalImplicit)
    (a : At K mg s.heap) (mi : mg "isinstance" = none) (m1 : mg "int" = none) (m2 : mg "bool" = none) (hroom : A.depth < recursionLimit) (rv : RelV v u) (ty : TyH s.heap v t) :
    codeAny (model P w) A (.call (.ref f) ⟨[u], []⟩) (fun r s' => r = .ok (.ret (.bool (isOct v))) ∧ Keeps s s') s := by
  obtain ⟨oc, od, kV, doc, pm, an, cdv, ct, osl, rfl, lk, hcd⟩ := F.ex
  have hbd := bs s [u] a.kin rfl
  refine Att.call_fn (binds := [("value", u)]) a.kin a.lim lk hcd hroom hbd (by rw [List.all_cons, List.all_nil, Bool.and_true]; show ((defScope st).names.lookup ("value" : Str) == some .local || _) = true; rw [sv]; rfl) (fun sC IC => ?_) S.co S.gen S.kind
  obtain ⟨h₁, tk₁, rfl⟩ := IC.toInCall.same
  have k : ∀ b o, s.heap.get? b = some o → h₁.get? b = some o := IC.toInCall.keep
  have hn := IC.toInCall.ns
  have a1 : At K mg h₁ := a.keeps k
  have ty1 : TyH h₁ v t := ty.keep fun b o _ e _ => k b o e
  have hv : bindL (envOfC "is_octet" (defScope st) s.heap.objs.size f cdv).kindOf [("value", u)] (fun _ => none) "value" = some u := by
    have z : (envOfC "is_octet" (defScope st) s.heap.objs.size f cdv).kindOf "value" = some .local := sv
    unfold bindL
    rw [z]
    unfold bindL
    simp
  rw [hb]
  show wpAny _ _ (execs (octBody p1 p2 p3 p4 p5 p6 p7 p8 p9 p10 p11 p12 p13 p14 p15 k1 k2) _) _ _ _
  unfold octBody
  generalize hE : envOfC "is_octet" (defScope st) s.heap.objs.size f cdv = env at hn hv ⊢
  have e1 : env.scope.kind = .function := by rw [← hE]; exact S.kind
  have e2 : env.globals = mainGlobals := by rw [← hE]; rfl
  have e3 : env.builtins = builtinsNs := by rw [← hE]; rfl
  have e4 : env.kindOf "value" = some .local := by rw [← hE]; exact sv
  have e5 : env.kindOf "isinstance" = some .globalImplicit := by rw [← hE]; exact si
  have e6 : env.kindOf "int" = some .globalImplicit := by rw [← hE]; exact s1
  have e7 : env.kindOf "bool" = some .globalImplicit := by rw [← hE]; exact s2
  have e8 : env.locals = s.heap.objs.size := by rw [← hE]; rfl
  rw [← e8] at hn
  have fin : ∀ (b : Bool) (tk : Nat), b = isOct v → ((Except.ok (Flow.ret (Value.bool b)) : Result) = Except.ok (Flow.ret (Value.bool (isOct v))) ∧ Keeps s { s with heap := h₁, toks := tk }) := fun b tk e => ⟨by rw [e], ⟨h₁, tk, rfl, k⟩⟩
  refine wpAny_execs_cons (wpAny_Return_some ?_)
  refine BoolOp_and (isi_at (s := { s with heap := h₁, toks := tk₁ }) a1 e1 e2 e3 e5 mi e6 m1 (by decide +kernel : bootBuiltins "int" = some (.type "int")) e4 hn hv rv ty1 (kit_int ty1) fun tk2 => wpAny_truthy_bool ?_)
  cases hI : isI t with
  | false =>
    refine fin false tk2 ?_
    cases v with
    | int i => cases ty; exact absurd hI (by decide)
    | _ => rfl
  | true =>
    refine BoolOp_and (UnaryOp_ (isi_at (s := { s with heap := h₁, toks := tk2 }) a1 e1 e2 e3 e5 mi e7 m2 (by decide +kernel : bootBuiltins "bool" = some (.type "bool")) e4 hn hv rv ty1 (kit_bool ty1) fun tk3 => not_of (wpAny_truthy_bool (wpAny_truthy_bool ?_))))
    cases hB : (t == "bool") with
    | true =>
      refine fin false tk3 ?_
      cases v with
      | int i => cases ty; exact absurd hB (by decide)
      | _ => rfl
    | false =>
      cases v with
      | int i =>
        obtain ⟨tk, rfl⟩ := rv
        refine BoolOp_one (Compare_chain (wpAny_Constant_int (chain_link (nm_loc e1 e4 hn hv ?_)))  (by with_unfolding_all rfl))
        refine PySem.P.le_int (wpAny_truthy_bool ?_)
        by_cases h0 : 0 ≤ i
        · rw [decide_eq_true h0]
          refine ite_tt (chain_last (wpAny_Constant_int (PySem.P.le_int (fin _ _ ?_))))
          show decide (i ≤ 255) = decide (0 ≤ i ∧ i ≤ 255)
          simp [h0]
        · rw [decide_eq_false h0]
          refine ite_ff (fin _ _ ?_)
          show false = decide (0 ≤ i ∧ i ≤ 255)
          simp [h0]
      | bl b => cases ty; exact absurd hB (by decide)
      | ref b => obtain ⟨z, _⟩ := ty; rcases z with rfl | rfl <;> exact absurd hI (by decide)
      | str x => cases ty; exact absurd hI (by decide)
      | non => cases ty; exact absurd hI (by decide)
      | byt b => exact False.elim ty
      | flt b => exact False.elim ty
      | ty n => exact False.elim ty
end
/-- the element is_octet(item) -/
theorem elt_isoct {X : Cx} {scope : Scope} {st : Stmt} {f : Addr} {fd : FuncData} {p1 p2 p3 p4 p5 p6 p7 p8 p9 p10 p11 p12 p13 p14 p15 q1 q2 q3 : Pos} {k1 k2 k : Nat} {xs : List V} (M : Mod X.K X.mg X.base) (hr : Room k X.A)
    (F : Fun X.K "is_octet" "is_octet" st f fd) (g : X.mg "is_octet" = some (.ref f)) (hb : defBody st = octBody p1 p2 p3 p4 p5 p6 p7 p8 p9 p10 p11 p12 p13 p14 p15 k1 k2)
    (S : FnScope ["value"] ["value"] (defScope st)) (bs : Binds X.K fd ["value"] []) (sv : (defScope st).names.lookup ("value" : Str) = some .local) (si : (defScope st).names.lookup ("isinstance" : Str) = some .globalImplicit) (s1 : (defScope st).names.lookup ("int" : Str) = some .globalImplicit) (s2 : (defScope st).names.lookup ("bool" : Str) = some .globalImplicit)
    (mi : X.mg "isinstance" = none) (m1 : X.mg "int" = none) (m2 : X.mg "bool" = none) (hk : scope.kind = .function) (hg : scope.names.lookup ("is_octet" : Str) = some .globalImplicit) (hi : scope.names.lookup ("item" : Str) = some .local) :
    EltV X scope "item" (.Call (.Name "is_octet" q1) [.Name "item" q2] [] q3) isOct xs := by
  rintro v hv cenv A' E' u t s₂ rv ty ⟨hA, hD, hU, hs, hge, hbe, kb, m₂, hn, hm⟩
  have a : At X.K X.mg s₂.heap := at_of M kb
  have e1 : cenv.scope.kind = .function := by rw [hs]; exact hk
  have e2 : cenv.kindOf "is_octet" = some .globalImplicit := by unfold Env.kindOf; rw [hs]; exact hg
  have e3 : cenv.kindOf "item" = some .local := by unfold Env.kindOf; rw [hs]; exact hi
  refine wpAny_Call_Name_kw (nm_glob a e1 hge e2 g ?_)
  refine PySem.W.callWith_K (h₀ := X.base) M.kin F.kp ?_
  show wpAny _ _ (spliced ((false, eval (.Name "item" q2) cenv) :: backTo q3 (starEach [] cenv))) _ _ s₂
  refine Calls.spliced_cons (nm_loc e1 e3 hn hm (Calls.spliced_nil ⟨a.kin, ?_⟩))
  show wpAny _ _ (call (.ref f) [u]) _ _ _
  refine wpAny_call (codeAny_mono (code_isoct F hb S bs sv si s1 s2 a mi m1 m2 (by have := hr.dp; omega) rv ty) fun r s' h => ?_)
  obtain ⟨rfl, hk'⟩ := h
  exact ⟨rfl, hk'⟩
end SM
namespace SM
open PySem PySem.Spec PyProof.Rows L2 GxR
/-! ### calls by promises, what is raised told at the slots -/
section
variable {X : Cx} {CX : CXT} {k : Nat} {f : Addr} {sp : Sp} {E : L2.St → XK} {x : Str} {p pos : Pos} {e : Expr} {es : List Expr} {t : TA}
def tCallR (sp : Sp) (E : L2.St → XK) (t : TA) : TE := fun σ H Q => t σ H fun vs H1 => sp vs H1 Q (E σ)
theorem pe_callR (F : FnR X.prog X.w X.K X.mg X.base CX k f sp) (hr : Room k X.A) (hg : Gl X x) (hm : X.mg x = some (.ref f)) (hk : PySem.W.keepIn X.K (.ref f) = true) (hx : ∀ σ, PassesAt CX X σ (E σ))
    (ha : PA X (e :: es) t)
    (hdb : (x == ("__debug__" : Str)) = false := by decide) (he : starEach (e :: es) X.env = (false, eval e X.env) :: starEach es X.env := by rfl) (hpl : (backTo pos (starEach es X.env)).any (·.1) = false := by rfl) :
    PE X (.Call (.Name x p) (e :: es) [] pos) (tCallR sp E t) := by
  constructor
  intro pins s σ H Q I h
  have called : ∀ (us : List Value) (z : Shared), (∃ vs H1, Inv X pins σ H1 z ∧ Vals vs us ∧ sp vs H1 Q (E σ)) → PySem.W.Frag.In X.K X.base ∧ wpAny (model X.prog X.w) X.A (call (.ref f) us) (EP X pins σ Q) X.xe z := fun us z ⟨vs, H1, J, r, q⟩ =>
    ⟨J.ok.mod.kin, wpAny_call (codeAny_mono (F X.A X.stack z H1 us vs Q (E σ) hr J.env0 r q) fun res z' c => match res, c with
      | .error e, c => hx σ pins H1 z e z' J c
      | .ok (.ret _), c => J.after c
      | .ok .next, c => c.elim
      | .ok .brk, c => c.elim
      | .ok .cont, c => c.elim)⟩
  exact wpAny_Call_Name_kw (ld_glob I hg hm (PySem.W.callWith_K (h₀ := X.base) I.ok.mod.kin hk (wpAny_mono (ha.run pos pins s σ H _ I h) (fun us z q => ⟨let ⟨_, _, J, _⟩ := q; J.kIn, (called us z q).2⟩) fun _ _ e => e) he hpl) hdb)
/-- a try that catches one class, as a named promise (so that a loop over it is found by unification) -/
@[reducible] def tTryO (K : PySem.W.Frag) (c : Value) (tb : WX → TS) (ts : Addr → Value → Option Addr → TS) (Wout : WX) : TS := fun D σ H => tb (wOnly K c ts Wout D) D σ H
theorem ps_tryO {Y : Cx} {y : Str} {c : Value} {body suite : List Stmt} {b₀ : Stmt} {np pos pos' : Pos} {tb : WX → TS} {ts : Addr → Value → Option Addr → TS} {Wout : WX}
    (h1 : Y.stack = Y.env :: Y.outer) (h2 : Y.env.frame = some Y.env.locals) (h3 : Names Y y c) (h4 : Takes Y Wout)
    (h5 : ∀ (W : WX) (pn : List (Addr × Obj)) (xe : Value → Shared → Prop), Takes (Y.tr pn xe) W → PassesOwn (model Y.prog Y.w) Y.A Y.env xe → PSs (Y.tr pn xe) body (tb W))
    (h6 : ∀ (a : Addr) (oe : Obj) (cls : Value) (d : Option Addr) (pn : List (Addr × Obj)), Zc cls d oe → (∃ vs, oe.data = .fields vs) → PSs (Y.suite a ((a, oe) :: pn)) (b₀ :: suite) (ts a cls d)) :
    PS Y (.Try body [.ExceptHandler (some (.Name y np)) none (b₀ :: suite) pos'] [] [] pos) (tTryO Y.K c tb ts Wout) := ps_try_only h1 h2 h3 h4 h5 h6
theorem pass0S : ∀ σ, PassesAt (L2.CX X.prog X.w) X σ E0 := fun σ pins H s e s' I c => passL pins σ H s e s' I c
theorem passE {E : XK} {E₁ : Value → Shared → Prop} (hs : X.stack = X.env :: X.outer) (hf : X.env.frame = some X.env.locals) (hex : X.ex = [])
    (hx : X.xe = fun e s' => wpAny (model X.prog X.w) X.A (leaving X.env e) (fun _ s'' => L2.CX X.prog X.w X.outer X.H_0 X.s_0 E e s'') E₁ s') : ∀ σ, PassesAt (L2.CX X.prog X.w) X σ E :=
  fun σ pins H s e s' I c => passes_call (takes_of hs hf hex hx) (fun _ _ _ _ h => h) pins σ H s e s' I c
/-- X(), an own exception class without an __init__ -/
theorem pmk_own0 {C : Addr} {bmB : List Value} {B newId initId : String} (F : ExcBaseFacts B newId initId bmB) (q : PySem.W.excIn X.K C bmB newId = true) (gC : X.mg x = some (.ref C)) (kC : PySem.W.keepIn X.K (.ref C) = true) (r : Raises X (.ref C)) (hg : Gl X x)
    (hdb : (x == ("__debug__" : Str)) = false := by decide) : PMk X (.Call (.Name x p) [] [] pos) (fun _ H Q => Q (.ref C) none H) := by
  intro pins s σ H Q I h
  refine wpAny_Call_Name_kw (ld_glob I hg gC ?_ hdb)
  refine PySem.W.callWith_K0 I.kIn kC ?_
  show wpAny _ _ (call (.ref C) []) _ _ _
  obtain ⟨bm, N, nm, qn, bs, hdct, sn, sub, ab, col, dd, k0, k1, k2, k3, k5, mN, hC, hN, hni, T⟩ := exc_obj I.kIn q
  refine wpAny_call_exc_subT F T hC hN hni (fun h' e hm => ?_) (by show 0 ≤ sizeLine; exact Nat.zero_le _)
  exact mk_of I hm r h (I.hok.gone hm.new)
end
/-- the body of the def st, run from its slots, keeps the promise sp -/
abbrev BodyOk (P : Program) (w : World) (K : PySem.W.Frag) (mg : Str → Option Value) (base : Heap) (_x qual : Str) (st : Stmt) (f : Addr) (N : List Str) (k : Nat) (sp : Sp) : Prop :=
  ∀ (code : Value) (Ar : Around) (out : List Env) (s0 : Shared) (H0 : Hp) (us : List V) (ret : VK) (exc : XK), Room k (Ar.deeper (envOfC qual (defScope st) s0.heap.objs.size f code)) → sp us H0 ret exc →
    ∃ body, PSs (cxOf (L2.CX P w) P w K mg base N qual (defScope st) f code Ar out s0 H0 exc) (defBody st) body ∧ body { nx := fun _ H' => ret .non H', rt := ret } (start N us) H0
/-- for a def whose code object is told -/
theorem fn_mkR {P : Program} {w : World} {K : PySem.W.Frag} {mg : Str → Option Value} {base : Heap} {x qual : Str} {st : Stmt} {f : Addr} {fd : FuncData} {N ps : List Str} {k : Nat} {sp : Sp} (F : Fun K x qual st f fd) (S : FnScope N ps (defScope st)) (b : Binds K fd ps []) (len : ∀ vs H Q E, sp vs H Q E → vs.length = ps.length)
    (hbody : BodyOk P w K mg base x qual st f N k sp) : FnR P w K mg base (L2.CX P w) (k + 1) f sp := by
  have G : FnOk P w K mg base (L2.CX P w) (k + 1) f fd ps sp := F.okX S len hbody
  refine (G.raw b .nil).imp fun vs H Q E h => ?_
  rw [List.append_nil]
  exact h
/-! ### what stands -/
/-- all that was tracked is as it was, but at ex; tables may have grown -/
structure Kp (ex : List Addr) (H H' : Hp) : Prop where
  keep : ∀ b o, b ∉ ex → H b = some o → (∀ ps, o ≠ .tbl ps) → H' b = some o
  tab : ∀ b, TabG H b → TabG H' b
  free : ∀ b, H' b = none → H b = none
theorem Kp.refl (ex : List Addr) (H : Hp) : Kp ex H H := ⟨fun _ _ _ e _ => e, fun _ e => e, fun _ e => e⟩
theorem Kp.trans {ex : List Addr} {H H1 H2 : Hp} (a : Kp ex H H1) (b : Kp ex H1 H2) : Kp ex H H2 := ⟨fun c o n e t => b.1 c o n (a.1 c o n e t) t, fun c e => b.2 c (a.2 c e), fun c e => a.3 c (b.3 c e)⟩
theorem Kp.mono {ex ex' : List Addr} {H H1 : Hp} (a : Kp ex H H1) (h : ∀ b ∈ ex, b ∈ ex') : Kp ex' H H1 := ⟨fun c o n e t => a.1 c o (fun z => n (h c z)) e t, a.2, a.3⟩
theorem Kp.of0 {ex : List Addr} {H H1 : Hp} (a : Kp [] H H1) : Kp ex H H1 := a.mono fun _ h => by cases h
theorem Kp.new {ex : List Addr} {H : Hp} {p : Addr} {o : HO} (h : H p = none) : Kp ex H (upd H p o) := by
  refine ⟨fun b u _ e _ => ?_, fun b ⟨ps, e, t⟩ => ⟨ps, ?_, t⟩, fun b e => ?_⟩
  · rw [upd_ne (ne_of_none e h)]; exact e
  · rw [upd_ne (ne_of_none e h)]; exact e
  · by_cases hb : b = p
    · rw [hb]; exact h
    · rw [upd_ne hb] at e; exact e
theorem Kp.put {ex : List Addr} {H : Hp} {p : Addr} {o u : HO} (hp : p ∈ ex) (h : H p = some u) (hu : ∀ ps, u ≠ .tbl ps) : Kp ex H (upd H p o) := by
  refine ⟨fun b v n e _ => ?_, fun b ⟨ps, e, t⟩ => ⟨ps, ?_, t⟩, fun b e => ?_⟩
  · rw [upd_ne (fun z => n (by rw [z]; exact hp))]; exact e
  · rw [upd_ne (ne_of e h (fun z => hu ps z.symm))]; exact e
  · by_cases hb : b = p
    · rw [hb, upd_same] at e; cases e
    · rw [upd_ne hb] at e; exact e
theorem Kp.grown {H H' : Hp} {P : Addr} (h : TabG H P) (t : Tabbed P H H') : Kp [] H H' := by
  obtain ⟨ps, e, _⟩ := h
  refine ⟨fun b o _ q n => ?_, fun b hb => ?_, fun b q => ?_⟩
  · rw [t.2 b (fun z => by rw [z, e] at q; cases q; exact n _ rfl)]; exact q
  · by_cases hbp : b = P
    · rw [hbp]; exact t.1
    · obtain ⟨ps', e', t'⟩ := hb
      exact ⟨ps', by rw [t.2 b hbp]; exact e', t'⟩
  · by_cases hbp : b = P
    · obtain ⟨ps', e', _⟩ := t.1
      rw [hbp, e'] at q; cases q
    · rw [t.2 b hbp] at q; exact q
/-- an object that is new to H is written -/
theorem Kp.upd {ex : List Addr} {H H1 : Hp} {p : Addr} {o : HO} (k : Kp ex H H1) (h : H p = none) : Kp ex H (upd H1 p o) := by
  refine ⟨fun b u n e t => ?_, fun b hb => ?_, fun b e => ?_⟩
  · rw [upd_ne (ne_of_none e h)]; exact k.1 b u n e t
  · obtain ⟨ps, e, t⟩ := hb
    have n := ne_of_none e h
    obtain ⟨ps', e', t'⟩ := k.2 b ⟨ps, e, t⟩
    exact ⟨ps', by rw [upd_ne n]; exact e', t'⟩
  · by_cases hb : b = p
    · rw [hb]; exact h
    · rw [upd_ne hb] at e; exact k.3 b e
section
variable {K : PySem.W.Frag} {ex : List Addr} {H H' : Hp} {a : Addr} {xs : List V}
theorem Kp.at (k : Kp ex H H') {o : HO} (h : H a = some o) (n : a ∉ ex := by simp) (t : ∀ ps, o ≠ .tbl ps := by intro _ z; cases z) : H' a = some o := k.1 a o n h t
theorem Kp.seqL (k : Kp ex H H') (h : SqL K H a xs) (n : a ∉ ex := by simp) : SqL K H' a xs := by
  exact h.imp (fun g => g.imp (fun g => k.1 a _ n g (by intro _ z; cases z)) fun ⟨o, g⟩ => ⟨o, k.1 a _ n g (by intro _ z; cases z)⟩) id
theorem Kp.seqT (k : Kp ex H H') (h : SqT K H a xs) (n : a ∉ ex := by simp) : SqT K H' a xs := by
  exact h.imp (fun g => g.imp (fun g => k.1 a _ n g (by intro _ z; cases z)) fun ⟨o, g⟩ => ⟨o, k.1 a _ n g (by intro _ z; cases z)⟩) id
end
theorem nofree_of {cl : List (Str × Addr)} {names : List (Str × NameKind)} (h : (names.all fun y => y.2 != NameKind.free) = true) : ∀ y ∈ names, y.2 = .free → ∃ c, cl.lookup y.1 = some c := fun y hy e => by
  have z := List.all_eq_true.mp h y hy
  rw [e] at z
  exact absurd z (by decide)
theorem sqT_of {K : PySem.W.Frag} {H : Hp} {a : Addr} {xs : List V} (h : H a = some (.tup xs)) : SqT K H a xs := .inl (.inl h)
theorem sqL_of {K : PySem.W.Frag} {H : Hp} {a : Addr} {xs : List V} (h : H a = some (.lst xs)) : SqL K H a xs := .inl (.inl h)
/-- a comprehension's item without a test -/
theorem yes_then {σ : L2.St} {H : Hp} {te : TE} {k : V → Hp → Prop} {B : Hp → Prop} (h : te σ H k) : tYes σ H (fun b H3 => if b = true then te σ H3 k else B H3) := by
  show (if true = true then te σ H k else B H)
  rw [if_pos rfl]
  exact h
/-- zip of two tuples -/
theorem walk_zipT {K : PySem.W.Frag} {a b : Addr} {xs ys : List V} {n : Nat} (hn : n = min xs.length ys.length) : Walk (RZ.ItzT K a b) n (fun H => SqT K H a xs ∧ SqT K H b ys) (YPair (fun i => xs[i]?) (fun i => ys[i]?)) := by
  subst hn
  have both : ∀ {i : Nat}, i < min xs.length ys.length → ∃ x y, xs[i]? = some x ∧ ys[i]? = some y := fun h => ⟨_, _, List.getElem?_eq_getElem (Nat.lt_of_lt_of_le h (Nat.min_le_left ..)), List.getElem?_eq_getElem (Nat.lt_of_lt_of_le h (Nat.min_le_right ..))⟩
  constructor
  · intro i H lt ⟨sa, sb⟩
    obtain ⟨x, y, ex, ey⟩ := both lt
    exact ⟨xs, ys, x, y, sa, sb, ex, ey⟩
  · exact fun H ⟨sa, sb⟩ => ⟨xs, ys, sa, sb, by omega⟩
  · exact fun i H v H' _ ⟨sa, sb⟩ ⟨T, x, y, e1, e2, e3, fx, fy⟩ => ⟨T, x, y, e1, e2, e3, fx xs sa, fy ys sb⟩
/-- a suite that is known to run for one class alone -/
theorem pss_when {X : Cx} {p : Prop} {body : List Stmt} {t : TS} (h : p → PSs X body t) : PSs X body (fun D σ H => p ∧ t D σ H) := ⟨fun pins s σ H D I hw => (h hw.1).run pins s σ H D I hw.2⟩
/-- isinstance of a caught error of the class at D against the class at C -/
theorem kit_own {K : PySem.W.Frag} {D C : Addr} {b : Bool} (hc : PySem.W.hasDictIn K C = true) (ht : PySem.W.typeIn K (.ref C) = some (.type "type")) (hs : PySem.W.subIn K (.ref D) (.ref C) = some b) (hr : D = C → b = true) : PySem.W.kitOne K (.ref D) (.ref C) = some b := by
  unfold PySem.W.kitOne
  by_cases e : D = C
  · subst e
    rw [hr rfl, if_pos (beq_self_eq_true _)]
  · rw [if_neg (show ¬ ((Value.ref D == Value.ref C) = true) from fun z => e (Value.ref.inj (beq_iff_eq.mp z)))]
    obtain ⟨cd, hcd, _⟩ := PySem.W.any_some hc
    have e2 : ((PySem.W.clsIn K C).isSome && PySem.W.typeIn K (.ref C) == some (.type "type")) = true := by rw [hcd, ht]; rfl
    show (if ((PySem.W.clsIn K C).isSome && PySem.W.typeIn K (.ref C) == some (.type "type")) = true then PySem.W.subIn K (.ref D) (.ref C) else none) = some b
    rw [if_pos e2]
    exact hs
/-- a tuple stands when only the list at S is written -/
theorem Kp.seqTS {K : PySem.W.Frag} {H H' : Hp} {S a : Addr} {xs ys : List V} (k : Kp [S] H H') (hS : H S = some (.lst ys)) (h : SqT K H a xs) : SqT K H' a xs := by
  by_cases e : a = S
  · subst e
    rcases h with (h | ⟨_, h⟩) | h
    · rw [hS] at h; cases h
    · rw [hS] at h; cases h
    · exact .inr h
  · exact k.seqT h (by simpa using e)
/-- what holds between two statements -/
theorem cutAt {t u : TS} {D : Ends} {σ : L2.St} {H : Hp} (C : L2.St → Hp → Prop) (h1 : ∀ N : L2.St → Hp → Prop, (∀ σ' H', C σ' H' → N σ' H') → t { D with nx := N } σ H) (h2 : ∀ σ' H', C σ' H' → u D σ' H') : tSeq t u D σ H := h1 _ h2
/-- t[lo:hi] of a tuple: a tuple of what was cut, new or not -/
theorem rSlA_of {K : PySem.W.Frag} {H : Hp} {a : Addr} {xs : List V} {lo hi : Option Int} {Q : VK} (h : SqT K H a xs) (q : ∀ H' p, Kp [] H H' → SqT K H' p (cutV xs lo hi) → Q (.ref p) H') : rSlA K (.ref a) lo hi H Q := by
  refine ⟨a, xs, rfl, h, fun e => q H a (Kp.refl _ _) ?_, fun _ p hp => q _ p (Kp.new hp) (sqT_of upd_same)⟩
  unfold cutV
  rw [e.1, e.2, List.drop_zero, Nat.sub_zero, List.take_length]
  exact h
/-- t + u: a tuple of both, new or not -/
theorem rCatA_of {K : PySem.W.Frag} {H : Hp} {a b : Addr} {xs ys : List V} {Q : VK} (h1 : SqT K H a xs) (h2 : SqT K H b ys) (hz : xs.length + ys.length ≤ sizeLine) (q : ∀ H' p, Kp [] H H' → SqT K H' p (xs ++ ys) → Q (.ref p) H') : rCatA K (.ref a) (.ref b) H Q := by
  refine ⟨a, b, xs, ys, rfl, rfl, h1, h2, hz, fun e => q H b (Kp.refl _ _) ?_, fun _ e => q H a (Kp.refl _ _) ?_, fun _ _ p hp => q _ p (Kp.new hp) (sqT_of upd_same)⟩
  · rw [e]; exact h2
  · rw [e, List.append_nil]; exact h1
/-- the table of a def's code object, from what is written of the def and of the code -/
theorem tabIn_of {K : PySem.W.Frag} {x : Str} {f c P : Addr} {oc co : Value} {od cq : Option Addr} {fd : FuncData} {sl cs : Array (Option Value)} {cv : Array Value} (n : PySem.W.nsIn K mainGlobals x = some (some (.ref f))) (l : K.lookup f = some ⟨oc, od, .func fd, sl⟩)
    (hc : fd.code = .ref c) (t : K.lookup c = some ⟨co, cq, .fields cv, cs⟩) (u : (cv[11]? : Option Value) = some (.ref P)) : PySem.W.tabIn K x = some (c, P) := by
  unfold PySem.W.tabIn
  simp only [n, l, hc, t, u]
/-- FnOk of a def whose body is followed by a promise -/
theorem fn_mkO {P : Program} {w : World} {K : PySem.W.Frag} {mg : Str → Option Value} {base : Heap} {x qual : Str} {st : Stmt} {f : Addr} {fd : FuncData} {N ps : List Str} {k : Nat} {sp : Sp} (F : Fun K x qual st f fd) (S : FnScope N ps (defScope st)) (len : ∀ vs H Q E, sp vs H Q E → vs.length = ps.length)
    (hbody : BodyOk P w K mg base x qual st f N k sp) : FnOk P w K mg base (L2.CX P w) (k + 1) f fd ps sp := F.okX S len hbody
/-- a law's row: its promise, and the tables of the defs that the top made -/
theorem walkTab {l : PySem.W.OpenLaw} {q : Program} {loose : List Str} {XP : (Str → Option Value) → Heap → Prop} {YP : World → Heap → Prop} {d : DefRec} {K : Params → PySem.W.Frag} {k n : Nat} {x : Str} (most : l.most = some n) (line : n ≤ sizeLine) (plain : d.params.defaults = []) (room : Room k callerA)
    (written : ∀ (w : World) (h : Heap), YP w h → (K w.params).In h)
    (known : ∀ (w : World) (mg : Str → Option Value) (law : Addr) (h : Heap), (K w.params).In h → h.Ns mainGlobals mg → mg d.name = some (.ref law) →
      (∀ (y : Str) (c P : Addr) (e : DefRec), (recsOf q).find? (fun e => e.name == y) = some e → PySem.W.tabIn (K w.params) y = some (c, P) → PySem.W.CodeHd h c P ∧ h.get? P = some { cls := .none, data := .fields #[] }) →
      LamX.LawAtS l w (K w.params) (L2.CX l.prog w) k n x mg law h) : PySem.W.WalkO q loose XP YP l.row.toRowW d [] fun f vs => PySem.call f vs :=
  Att.attach_callB most plain fun w _ s1 mg _ law _ _ _ _ a _ ns G Y _ _ _ hmg scr items len bits gens => by
    have inK := written w _ Y
    have top := G.T
    obtain ⟨fd, tabs, sp, h1, h2, h3, binds, says, ok⟩ := known w mg law _ inK top.g hmg fun _ _ _ _ r t => PySem.W.tab_of top inK r t
    exact LamX.law_callTs inK top.g top.b top.builtins top.nolimit gens h1 h2 h3 top.bmain scr items (Nat.le_trans len line) room ok binds (fun H hH hS => says H a ns len bits hH hS) fun _ _ _ ⟨_, _, _, _, _, _, _, _, _, _, _, _, z⟩ => z
end SM
namespace SK
open PySem PySem.Spec PyProof.Rows L2 GxR SM
def topS (i : Nat) : Stmt := PySem.Challenge.pw_saltmill_k02_numbers_of_octets.main.body.getD i (.Pass ⟨0, 0, 0, 0⟩)
abbrev s_is_octet : Stmt := topS 7
abbrev n_is_octet : List Str := ["value"]
theorem sc_is_octet : FnScope n_is_octet ["value"] (defScope s_is_octet) := ⟨rfl, rfl, rfl, by decide +kernel, rfl, by decide +kernel, by decide +kernel⟩
abbrev s_is_octets : Stmt := topS 8
abbrev n_is_octets : List Str := ["value"]
theorem sc_is_octets : FnScope n_is_octets ["value"] (defScope s_is_octets) := ⟨rfl, rfl, rfl, by decide +kernel, rfl, by decide +kernel, by decide +kernel⟩
abbrev s_check_octets : Stmt := topS 9
abbrev n_check_octets : List Str := ["values", "value"]
theorem sc_check_octets : FnScope n_check_octets ["values"] (defScope s_check_octets) := ⟨rfl, rfl, rfl, by decide +kernel, rfl, by decide +kernel, by decide +kernel⟩
abbrev s_to_hex : Stmt := topS 10
abbrev n_to_hex : List Str := ["octets", "octet"]
theorem sc_to_hex : FnScope n_to_hex ["octets"] (defScope s_to_hex) := ⟨rfl, rfl, rfl, by decide +kernel, rfl, by decide +kernel, by decide +kernel⟩
abbrev s_to_base64 : Stmt := topS 11
abbrev n_to_base64 : List Str := ["octets", "at"]
theorem sc_to_base64 : FnScope n_to_base64 ["octets"] (defScope s_to_base64) := ⟨rfl, rfl, rfl, by decide +kernel, rfl, by decide +kernel, by decide +kernel⟩
abbrev s__group_text : Stmt := topS 12
abbrev n__group_text : List Str := ["group", "bits", "characters", "shift"]
theorem sc__group_text : FnScope n__group_text ["group"] (defScope s__group_text) := ⟨rfl, rfl, rfl, by decide +kernel, rfl, by decide +kernel, by decide +kernel⟩
abbrev s_big : Stmt := topS 13
abbrev n_big : List Str := ["number", "size"]
theorem sc_big : FnScope n_big ["number", "size"] (defScope s_big) := ⟨rfl, rfl, rfl, by decide +kernel, rfl, by decide +kernel, by decide +kernel⟩
abbrev s_little : Stmt := topS 14
abbrev n_little : List Str := ["number", "size", "place"]
theorem sc_little : FnScope n_little ["number", "size"] (defScope s_little) := ⟨rfl, rfl, rfl, by decide +kernel, rfl, by decide +kernel, by decide +kernel⟩
abbrev s_from_big : Stmt := topS 15
abbrev n_from_big : List Str := ["octets", "number", "octet"]
theorem sc_from_big : FnScope n_from_big ["octets"] (defScope s_from_big) := ⟨rfl, rfl, rfl, by decide +kernel, rfl, by decide +kernel, by decide +kernel⟩
abbrev s_from_little : Stmt := topS 16
abbrev n_from_little : List Str := ["octets"]
theorem sc_from_little : FnScope n_from_little ["octets"] (defScope s_from_little) := ⟨rfl, rfl, rfl, by decide +kernel, rfl, by decide +kernel, by decide +kernel⟩
abbrev s_xor : Stmt := topS 17
abbrev n_xor : List Str := ["first", "second", "one", "other"]
theorem sc_xor : FnScope n_xor ["first", "second"] (defScope s_xor) := ⟨rfl, rfl, rfl, by decide +kernel, rfl, by decide +kernel, by decide +kernel⟩
abbrev s_same_octets : Stmt := topS 18
abbrev n_same_octets : List Str := ["first", "second", "difference", "one", "other"]
theorem sc_same_octets : FnScope n_same_octets ["first", "second"] (defScope s_same_octets) := ⟨rfl, rfl, rfl, by decide +kernel, rfl, by decide +kernel, by decide +kernel⟩
abbrev s__law_start : Stmt := topS 20
abbrev n__law_start : List Str := ["script", "seed", "cell"]
theorem sc__law_start : FnScope n__law_start ["script"] (defScope s__law_start) := ⟨rfl, rfl, rfl, by decide +kernel, rfl, by decide +kernel, by decide +kernel⟩
abbrev s__law_draw : Stmt := topS 21
abbrev n__law_draw : List Str := ["state", "many", "value"]
theorem sc__law_draw : FnScope n__law_draw ["state", "many"] (defScope s__law_draw) := ⟨rfl, rfl, rfl, by decide +kernel, rfl, by decide +kernel, by decide +kernel⟩
abbrev s__law_octets : Stmt := topS 22
abbrev n__law_octets : List Str := ["number", "size", "octets", "k"]
theorem sc__law_octets : FnScope n__law_octets ["number", "size"] (defScope s__law_octets) := ⟨rfl, rfl, rfl, by decide +kernel, rfl, by decide +kernel, by decide +kernel⟩
abbrev s__law_sized : Stmt := topS 23
abbrev n__law_sized : List Str := ["function", "number", "size", "e"]
theorem sc__law_sized : FnScope n__law_sized ["function", "number", "size"] (defScope s__law_sized) := ⟨rfl, rfl, rfl, by decide +kernel, rfl, by decide +kernel, by decide +kernel⟩
abbrev s__law_xored : Stmt := topS 24
abbrev n__law_xored : List Str := ["first", "second", "e"]
theorem sc__law_xored : FnScope n__law_xored ["first", "second"] (defScope s__law_xored) := ⟨rfl, rfl, rfl, by decide +kernel, rfl, by decide +kernel, by decide +kernel⟩
abbrev s__law_refused : Stmt := topS 25
abbrev n__law_refused : List Str := ["value", "good", "count", "k"]
theorem sc__law_refused : FnScope n__law_refused ["value", "good"] (defScope s__law_refused) := ⟨rfl, rfl, rfl, by decide +kernel, rfl, by decide +kernel, by decide +kernel⟩
abbrev s__law_numbers : Stmt := topS 26
abbrev n__law_numbers : List Str := ["state", "number", "size", "due", "small", "great"]
theorem sc__law_numbers : FnScope n__law_numbers ["state"] (defScope s__law_numbers) := ⟨rfl, rfl, rfl, by decide +kernel, rfl, by decide +kernel, by decide +kernel⟩
abbrev s_law : Stmt := topS 27
abbrev n_law : List Str := ["script", "state", "first", "k", "second", "place", "due", "bad"]
theorem sc_law : FnScope n_law ["script"] (defScope s_law) := ⟨rfl, rfl, rfl, by decide +kernel, rfl, by decide +kernel, by decide +kernel⟩
structure Txt (K : PySem.W.Frag) (mg : Str → Option Value) where
  a_is_octet : Addr
  d_is_octet : FuncData
  F_is_octet : Fun K "is_octet" "is_octet" s_is_octet a_is_octet d_is_octet
  g_is_octet : mg "is_octet" = some (.ref a_is_octet)
  b_is_octet : Binds K d_is_octet ["value"] []
  a_is_octets : Addr
  d_is_octets : FuncData
  F_is_octets : Fun K "is_octets" "is_octets" s_is_octets a_is_octets d_is_octets
  g_is_octets : mg "is_octets" = some (.ref a_is_octets)
  b_is_octets : Binds K d_is_octets ["value"] []
  c_is_octets : Addr
  P_is_octets : Addr
  L_is_octets : ∃ (oc : Value) (od : Option Addr) (kV doc pm : Value) (an : Option Addr) (ct : Value) (osl : Array (Option Value)), K.lookup a_is_octets = some ⟨oc, od, .func (PySem.W.fnOf "is_octets" "is_octets" (defArgs s_is_octets) (defBody s_is_octets) (defScope s_is_octets) .none kV doc pm an (.ref c_is_octets) ct), osl⟩ ∧ PySem.W.codeIn K (.ref c_is_octets) "is_octets" = true
  a_check_octets : Addr
  d_check_octets : FuncData
  F_check_octets : Fun K "check_octets" "check_octets" s_check_octets a_check_octets d_check_octets
  g_check_octets : mg "check_octets" = some (.ref a_check_octets)
  c_check_octets : Addr
  P_check_octets : Addr
  L_check_octets : ∃ (oc : Value) (od : Option Addr) (kV doc pm : Value) (an : Option Addr) (ct : Value) (osl : Array (Option Value)), K.lookup a_check_octets = some ⟨oc, od, .func (PySem.W.fnOf "check_octets" "check_octets" (defArgs s_check_octets) (defBody s_check_octets) (defScope s_check_octets) .none kV doc pm an (.ref c_check_octets) ct), osl⟩ ∧ PySem.W.codeIn K (.ref c_check_octets) "check_octets" = true
  a_to_hex : Addr
  d_to_hex : FuncData
  F_to_hex : Fun K "to_hex" "to_hex" s_to_hex a_to_hex d_to_hex
  g_to_hex : mg "to_hex" = some (.ref a_to_hex)
  b_to_hex : Binds K d_to_hex ["octets"] []
  a_to_base64 : Addr
  d_to_base64 : FuncData
  F_to_base64 : Fun K "to_base64" "to_base64" s_to_base64 a_to_base64 d_to_base64
  g_to_base64 : mg "to_base64" = some (.ref a_to_base64)
  b_to_base64 : Binds K d_to_base64 ["octets"] []
  a__group_text : Addr
  d__group_text : FuncData
  F__group_text : Fun K "_group_text" "_group_text" s__group_text a__group_text d__group_text
  g__group_text : mg "_group_text" = some (.ref a__group_text)
  b__group_text : Binds K d__group_text ["group"] []
  a_big : Addr
  d_big : FuncData
  F_big : Fun K "big" "big" s_big a_big d_big
  g_big : mg "big" = some (.ref a_big)
  b_big : Binds K d_big ["number", "size"] []
  a_little : Addr
  d_little : FuncData
  F_little : Fun K "little" "little" s_little a_little d_little
  g_little : mg "little" = some (.ref a_little)
  b_little : Binds K d_little ["number", "size"] []
  a_from_big : Addr
  d_from_big : FuncData
  F_from_big : Fun K "from_big" "from_big" s_from_big a_from_big d_from_big
  g_from_big : mg "from_big" = some (.ref a_from_big)
  b_from_big : Binds K d_from_big ["octets"] []
  a_from_little : Addr
  d_from_little : FuncData
  F_from_little : Fun K "from_little" "from_little" s_from_little a_from_little d_from_little
  g_from_little : mg "from_little" = some (.ref a_from_little)
  b_from_little : Binds K d_from_little ["octets"] []
  a_xor : Addr
  d_xor : FuncData
  F_xor : Fun K "xor" "xor" s_xor a_xor d_xor
  g_xor : mg "xor" = some (.ref a_xor)
  b_xor : Binds K d_xor ["first", "second"] []
  a_same_octets : Addr
  d_same_octets : FuncData
  F_same_octets : Fun K "same_octets" "same_octets" s_same_octets a_same_octets d_same_octets
  g_same_octets : mg "same_octets" = some (.ref a_same_octets)
  b_same_octets : Binds K d_same_octets ["first", "second"] []
  a__law_start : Addr
  d__law_start : FuncData
  F__law_start : Fun K "_law_start" "_law_start" s__law_start a__law_start d__law_start
  g__law_start : mg "_law_start" = some (.ref a__law_start)
  b__law_start : Binds K d__law_start ["script"] []
  a__law_draw : Addr
  d__law_draw : FuncData
  F__law_draw : Fun K "_law_draw" "_law_draw" s__law_draw a__law_draw d__law_draw
  g__law_draw : mg "_law_draw" = some (.ref a__law_draw)
  b__law_draw : Binds K d__law_draw ["state", "many"] []
  a__law_octets : Addr
  d__law_octets : FuncData
  F__law_octets : Fun K "_law_octets" "_law_octets" s__law_octets a__law_octets d__law_octets
  g__law_octets : mg "_law_octets" = some (.ref a__law_octets)
  b__law_octets : Binds K d__law_octets ["number", "size"] []
  a__law_sized : Addr
  d__law_sized : FuncData
  F__law_sized : Fun K "_law_sized" "_law_sized" s__law_sized a__law_sized d__law_sized
  g__law_sized : mg "_law_sized" = some (.ref a__law_sized)
  b__law_sized : Binds K d__law_sized ["function", "number", "size"] []
  a__law_xored : Addr
  d__law_xored : FuncData
  F__law_xored : Fun K "_law_xored" "_law_xored" s__law_xored a__law_xored d__law_xored
  g__law_xored : mg "_law_xored" = some (.ref a__law_xored)
  b__law_xored : Binds K d__law_xored ["first", "second"] []
  a__law_refused : Addr
  d__law_refused : FuncData
  F__law_refused : Fun K "_law_refused" "_law_refused" s__law_refused a__law_refused d__law_refused
  g__law_refused : mg "_law_refused" = some (.ref a__law_refused)
  b__law_refused : Binds K d__law_refused ["value", "good"] []
  a__law_numbers : Addr
  d__law_numbers : FuncData
  F__law_numbers : Fun K "_law_numbers" "_law_numbers" s__law_numbers a__law_numbers d__law_numbers
  g__law_numbers : mg "_law_numbers" = some (.ref a__law_numbers)
  b__law_numbers : Binds K d__law_numbers ["state"] []
  a_law : Addr
  d_law : FuncData
  F_law : Fun K "law" "law" s_law a_law d_law
  g_law : mg "law" = some (.ref a_law)
  b_law : Binds K d_law ["script"] []
  a_SaltmillError : Addr
  g_SaltmillError : mg "SaltmillError" = some (.ref a_SaltmillError)
  xP_SaltmillError : PySem.W.excIn K a_SaltmillError [.type "ValueError", .type "Exception", .type "BaseException", .type "object"] "ValueError.__new__" = true
  kP_SaltmillError : PySem.W.keepIn K (.ref a_SaltmillError) = true
  bP_SaltmillError : PySem.W.subIn K (.ref a_SaltmillError) (.type "BaseException") = some true
  tP_SaltmillError : PySem.W.typeIn K (.ref a_SaltmillError) = some (.type "type")
  hd_SaltmillError : PySem.W.hasDictIn K a_SaltmillError = true
  a_OctetError : Addr
  g_OctetError : mg "OctetError" = some (.ref a_OctetError)
  xP_OctetError : PySem.W.excIn K a_OctetError [.type "ValueError", .type "Exception", .type "BaseException", .type "object"] "ValueError.__new__" = true
  kP_OctetError : PySem.W.keepIn K (.ref a_OctetError) = true
  bP_OctetError : PySem.W.subIn K (.ref a_OctetError) (.type "BaseException") = some true
  tP_OctetError : PySem.W.typeIn K (.ref a_OctetError) = some (.type "type")
  hd_OctetError : PySem.W.hasDictIn K a_OctetError = true
  a_LengthError : Addr
  g_LengthError : mg "LengthError" = some (.ref a_LengthError)
  xP_LengthError : PySem.W.excIn K a_LengthError [.type "ValueError", .type "Exception", .type "BaseException", .type "object"] "ValueError.__new__" = true
  kP_LengthError : PySem.W.keepIn K (.ref a_LengthError) = true
  bP_LengthError : PySem.W.subIn K (.ref a_LengthError) (.type "BaseException") = some true
  tP_LengthError : PySem.W.typeIn K (.ref a_LengthError) = some (.type "type")
  hd_LengthError : PySem.W.hasDictIn K a_LengthError = true
  sub_OctetError_SaltmillError : PySem.W.subIn K (.ref a_OctetError) (.ref a_SaltmillError) = some true
  sub_LengthError_SaltmillError : PySem.W.subIn K (.ref a_LengthError) (.ref a_SaltmillError) = some true
  sub_OctetError_LengthError : PySem.W.subIn K (.ref a_OctetError) (.ref a_LengthError) = some false
  sub_LengthError_LengthError : PySem.W.subIn K (.ref a_LengthError) (.ref a_LengthError) = some true
  sub_OctetError_OctetError : PySem.W.subIn K (.ref a_OctetError) (.ref a_OctetError) = some true
  sub_LengthError_OctetError : PySem.W.subIn K (.ref a_LengthError) (.ref a_OctetError) = some false
  X_LengthError : ExcC K a_LengthError
  X_OctetError : ExcC K a_OctetError
  t_MOST_OCTETS : Tok
  g_MOST_OCTETS : mg "MOST_OCTETS" = some (.int 4096 t_MOST_OCTETS)
  t_ALPHABET : Tok
  g_ALPHABET : mg "ALPHABET" = some (.str "ABCDEFGHIJKLMNOPQRSTUVWXYZabcdefghijklmnopqrstuvwxyz0123456789+/" t_ALPHABET)
  m_abs : mg "abs" = none
  m_all : mg "all" = none
  m_bool : mg "bool" = none
  m_int : mg "int" = none
  m_isinstance : mg "isinstance" = none
  m_len : mg "len" = none
  m_list : mg "list" = none
  m_range : mg "range" = none
  m_tuple : mg "tuple" = none
  m_zip : mg "zip" = none
end SK
namespace SK
open PySem PySem.Spec PyProof.Rows L2 GxR SM
theorem tyX_of {K : PySem.W.Frag} {H : Hp} {v : V} {t : String} (h : TyA K H v t) : TyX K H v (.type t) := by
  cases v with
  | ref a =>
    rcases h with ⟨rfl, xs, h⟩ | ⟨rfl, xs, h⟩
    · rcases h with (h | ⟨o, h⟩) | ⟨o, its, n, hk, hc, _⟩
      · exact .base (.lst h)
      · exact .base (.frz h)
      · exact .kList hk hc
    · rcases h with (h | ⟨o, h⟩) | ⟨o, its, n, hk, hc, _⟩
      · exact .base (.tup h)
      · exact .fTuple h
      · exact .kTuple hk hc
  | int i => cases h; exact .base (.int i)
  | bl b => cases h; exact .base (.bl b)
  | str x => cases h; exact .base (.str x)
  | non => cases h; exact .base .non
  | byt b => exact False.elim h
  | flt b => exact False.elim h
  | ty n => exact False.elim h
theorem kitT_of {K : PySem.W.Frag} {H : Hp} {v : V} {t : String} (h : TyA K H v t) : PySem.W.kitOne K (.type t) (.type "tuple") = some (t == "tuple") := by
  cases v with
  | ref a => rcases h with ⟨rfl, _⟩ | ⟨rfl, _⟩ <;> exact kit_ty (by decide +kernel)
  | int i => cases h; exact kit_ty (by decide +kernel)
  | bl b => cases h; exact kit_ty (by decide +kernel)
  | str x => cases h; exact kit_ty (by decide +kernel)
  | non => cases h; exact kit_ty (by decide +kernel)
  | byt b => exact False.elim h
  | flt b => exact False.elim h
  | ty n => exact False.elim h
/-- a value that is asked whether it is an octet string: the answer -/
def OArg (K : PySem.W.Frag) (H : Hp) (v : V) (b : Bool) : Prop :=
  (∃ a xs, v = .ref a ∧ SqT K H a xs ∧ (∀ x ∈ xs, ∃ t, TyA K H x t) ∧ b = xs.all isOct) ∨ ((∃ t, TyA K H v t ∧ t ≠ "tuple") ∧ b = false)
section
variable {P : Program} {w : World} {K : PySem.W.Frag} {mg : Str → Option Value} {base : Heap}
def spIsOctets (K : PySem.W.Frag) (P : Addr) : Sp := fun vs H Q _ => ∃ v b, vs = [v] ∧ OArg K H v b ∧ TabG H P ∧ ∀ H', Kp [] H H' → Q (.bl b) H'
theorem ok_is_octets (T : Txt K mg) (TB : TabB base mg T.c_is_octets T.P_is_octets) : FnR P w K mg base (L2.CX P w) 5 T.a_is_octets (spIsOctets K T.P_is_octets) := by
  obtain ⟨oc, od, kV, doc, pm, an, ct, osl, lk, hcd⟩ := T.L_is_octets
  have F : Fun K "is_octets" "is_octets" s_is_octets T.a_is_octets (PySem.W.fnOf "is_octets" "is_octets" (defArgs s_is_octets) (defBody s_is_octets) (defScope s_is_octets) .none kV doc pm an (.ref T.c_is_octets) ct) := fun_mk (st := s_is_octets) lk hcd T.F_is_octets.kp
  have G : FnOk P w K mg base (L2.CX P w) 5 T.a_is_octets (PySem.W.fnOf "is_octets" "is_octets" (defArgs s_is_octets) (defBody s_is_octets) (defScope s_is_octets) .none kV doc pm an (.ref T.c_is_octets) ct) ["value"] (spIsOctets K T.P_is_octets) := by
    refine fn_of lk hcd sc_is_octets (fun vs H Q E h => ?_) fun A outer s H vs Q E hr h => ?_
    · obtain ⟨v, b, rfl, _⟩ := h
      rfl
    · obtain ⟨v, b, rfl, hv, hP, q⟩ := h
      refine ⟨_, pss_one (ps_ret (pe_and (pe_callB call_isi (by rfl) T.m_isinstance (by decide +kernel) (pa_cons (pv 0) (pa_cons (pe_bltn (by rfl) T.m_tuple (v := .ty "tuple") (by decide +kernel) rfl) pa_nil)))
        (pe_one (SM.pe_allV (c := T.c_is_octets) (P := T.P_is_octets) (pb := isOct) hr (by rfl) T.m_all (by decide +kernel) TB rfl ⟨rfl, rfl, by decide +kernel, by decide +kernel, by decide +kernel, by exact nofree_of (by decide +kernel)⟩ (pv 0) (fun _ => rfl))))), ?_⟩
      rcases hv with ⟨a, xs, rfl, hx, hty, rfl⟩ | ⟨⟨t, ty, nt⟩, rfl⟩
      · refine ⟨_, rfl, _, _, .type "tuple", .type "tuple", true, rfl, .ty _, tyX_of (t := "tuple") (.inr ⟨rfl, xs, hx⟩), kit_ty (by decide +kernel), true, rfl, iteT ?_⟩
        refine ⟨_, rfl, a, xs, rfl, .inl hx, hty, fun M => ?_, hP, fun H2 t2 => q H2 (Kp.grown hP t2)⟩
        exact elt_isoct (k := 4) (st := s_is_octet) M hr T.F_is_octet T.g_is_octet rfl sc_is_octet T.b_is_octet (by decide +kernel) (by decide +kernel) (by decide +kernel) (by decide +kernel) T.m_isinstance T.m_int T.m_bool rfl (by decide +kernel) (by decide +kernel)
      · have e : (t == "tuple") = false := beq_eq_false_iff_ne.mpr nt
        refine ⟨_, rfl, _, _, .type t, .type "tuple", false, rfl, .ty _, tyX_of ty, (show PySem.W.kitOne K (.type t) (.type "tuple") = some false by rw [kitT_of ty, e]), false, rfl, iteF ?_⟩
        exact q H (Kp.refl _ _)
  have bb : Binds K (PySem.W.fnOf "is_octets" "is_octets" (defArgs s_is_octets) (defBody s_is_octets) (defScope s_is_octets) .none kV doc pm an (.ref T.c_is_octets) ct) ["value"] [] := F.binds (ps := ["value"]) fun _ _ _ _ _ _ us hl => match us, hl with | [_], _ => rfl
  refine (G.raw bb .nil).imp fun vs H Q E h => ?_
  rw [List.append_nil]
  exact h
end
end SK
namespace SK
open PySem PySem.Spec PyProof.Rows L2 GxR SM
theorem TyA.kp {K : PySem.W.Frag} {H H' : Hp} {v : V} {t : String} (k : Kp [] H H') (h : TyA K H v t) : TyA K H' v t := by
  cases v with
  | ref a =>
    rcases h with ⟨rfl, xs, h⟩ | ⟨rfl, xs, h⟩
    · exact .inl ⟨rfl, xs, k.seqL h⟩
    · exact .inr ⟨rfl, xs, k.seqT h⟩
  | _ => exact h
theorem OArg.kp {K : PySem.W.Frag} {H H' : Hp} {v : V} {b : Bool} (k : Kp [] H H') (h : OArg K H v b) : OArg K H' v b := by
  rcases h with ⟨a, xs, rfl, hx, hty, rfl⟩ | ⟨⟨t, ty, nt⟩, rfl⟩
  · exact .inl ⟨a, xs, rfl, k.seqT hx, fun x hx' => let ⟨t, z⟩ := hty x hx'; ⟨t, TyA.kp k z⟩, rfl⟩
  · exact .inr ⟨⟨t, TyA.kp k ty, nt⟩, rfl⟩
/-- an octet string at v, its octets -/
def Oct (K : PySem.W.Frag) (H : Hp) (v : V) (ns : List Nat) : Prop := ∃ a, v = .ref a ∧ SqT K H a (ns.map fun n => V.int (n : Nat)) ∧ ∀ n ∈ ns, n < 256
theorem Oct.kp {K : PySem.W.Frag} {H H' : Hp} {v : V} {ns : List Nat} (k : Kp [] H H') (h : Oct K H v ns) : Oct K H' v ns := by
  obtain ⟨a, rfl, h, l⟩ := h
  exact ⟨a, rfl, k.seqT h, l⟩
theorem Oct.arg {K : PySem.W.Frag} {H : Hp} {v : V} {ns : List Nat} (h : Oct K H v ns) : OArg K H v true := by
  obtain ⟨a, rfl, h, l⟩ := h
  refine .inl ⟨a, _, rfl, h, fun x hx => ?_, ?_⟩
  · obtain ⟨n, hn, rfl⟩ := List.mem_map.mp hx
    exact ⟨"int", rfl⟩
  · symm
    rw [List.all_eq_true]
    intro x hx
    obtain ⟨n, hn, rfl⟩ := List.mem_map.mp hx
    have := l n hn
    show decide ((0 : Int) ≤ (n : Int) ∧ (n : Int) ≤ 255) = true
    exact decide_eq_true (by omega)
theorem Oct.bad {K : PySem.W.Frag} {H : Hp} {v : V} {ns : List Nat} (h : Oct K H v ns) : OArg K H v true := h.arg
theorem paired_get {α β : Type} {F : α → β → Prop} : ∀ {l₁ : List α} {l₂ : List β} {i : Nat} {a : α}, Paired F l₁ l₂ → l₁[i]? = some a → ∃ b, l₂[i]? = some b ∧ F a b
  | _, _, _, _, .nil, e => by simp at e
  | _, _, 0, _, .cons h _, e => by simp at e; subst e; exact ⟨_, rfl, h⟩
  | _, _, i + 1, a, .cons _ t, e => by
    obtain ⟨b, h1, h2⟩ := paired_get (i := i) t (by simpa using e)
    exact ⟨b, by simpa using h1, h2⟩
section
variable {P : Program} {w : World} {K : PySem.W.Frag} {mg : Str → Option Value} {base : Heap}
/-- check_octets: the values with what is said of each; OctetError, or by the lengths LengthError, or nothing -/
def spCheck (K : PySem.W.Frag) (P aO aL : Addr) : Sp := fun vs H Q E => vs.length ≤ 8 ∧ TabG H P ∧
  ((∃ bs : List Bool, Paired (OArg K H) vs bs ∧ false ∈ bs ∧ ∀ H', Kp [] H H' → E (.ref aO) none H') ∨
   (∃ nss : List (List Nat), Paired (Oct K H) vs nss ∧ ((∀ ns ∈ nss, ns.length ≤ 4096) → ∀ H', Kp [] H H' → Q .non H') ∧ ((∃ ns ∈ nss, 4096 < ns.length) → ∀ H', Kp [] H H' → E (.ref aL) none H')))
theorem Paired.mono' {α β : Type} {F F' : α → β → Prop} (hm : ∀ a b, F a b → F' a b) : ∀ {l₁ : List α} {l₂ : List β}, Paired F l₁ l₂ → Paired F' l₁ l₂
  | _, _, .nil => .nil
  | _, _, .cons h t => .cons (hm _ _ h) (Paired.mono' hm t)
theorem paired_true {K : PySem.W.Frag} {H : Hp} : ∀ {vs : List V} {nss : List (List Nat)}, Paired (Oct K H) vs nss → Paired (OArg K H) vs (nss.map fun _ => true)
  | _, _, .nil => .nil
  | _, _, .cons h t => .cons h.arg (paired_true t)
theorem ok_check_octets (T : Txt K mg) (G_is_octets : FnR P w K mg base (L2.CX P w) 5 T.a_is_octets (spIsOctets K T.P_is_octets)) : FnR P w K mg base (L2.CX P w) 6 T.a_check_octets (spCheck K T.P_is_octets T.a_OctetError T.a_LengthError) := by
  obtain ⟨oc, od, kV, doc, pm, an, ct, osl, lk, hcd⟩ := T.L_check_octets
  refine (StX.fn_star (ps := []) (pv := "values") (N := n_check_octets) (CX := L2.CX P w) (sp := fun vs H Q E => ∃ (p : Addr) (us : List V), vs = [.ref p] ∧ H p = some (.tup us) ∧ spCheck K T.P_is_octets T.a_OctetError T.a_LengthError us H Q E) lk hcd sc_check_octets StX.cxUp (fun us rest hl => ?_) (fun A outer s H vs Q E hr h => ?_)).imp fun vs H Q E h => ?_
  · cases us with
    | cons a b => cases hl
    | nil =>
      cases rest with
      | nil => rfl
      | cons r rs => rfl
  · obtain ⟨p, us, rfl, hp, hlen, hP, h⟩ := h
    refine ⟨_, (pss_cons (ps_for (passes_of rfl) rfl (pi_tup (pv 0)) (pg_name (i := 1) sc_check_octets.nd rfl (Or.inl rfl))
      (pss_one (ps_if (pt_not (pt_val (SM.pe_callR G_is_octets (hr.mono (by decide)) (by rfl) T.g_is_octets T.F_is_octets.kp (SM.passE rfl rfl rfl rfl) (pa_cons (pv 1) pa_nil))))
      (pss_one (ps_raise rfl (takes_of rfl rfl rfl rfl) (SM.pmk_own0 PySem.F.excBase_ValueError T.xP_OctetError T.g_OctetError T.kP_OctetError (raises_own T.bP_OctetError T.tP_OctetError) (by exact rfl))))
      pss_nil)))
      (pss_one (ps_for (passes_of rfl) rfl (pi_tup (pv 0)) (pg_name (i := 1) sc_check_octets.nd rfl (Or.inl rfl))
      (pss_one (ps_if (pt_cmpR op_gt (pe_callB call_len_seq (by rfl) T.m_len (by decide +kernel) (pa_cons (pv 1) pa_nil)) (pe_glob (v := .int 4096) rfl T.g_MOST_OCTETS ⟨_, rfl⟩) (nomark _))
      (pss_one (ps_raise rfl (takes_of rfl rfl rfl rfl) (SM.pmk_own0 PySem.F.excBase_ValueError T.xP_LengthError T.g_LengthError T.kP_LengthError (raises_own T.bP_LengthError T.tP_LengthError) (by exact rfl))))
      pss_nil))))), ?_⟩
    -- what is said of each value
    obtain ⟨bs, hbs, hfin⟩ : ∃ bs : List Bool, Paired (OArg K H) us bs ∧ ((false ∈ bs ∧ ∀ H', Kp [] H H' → E (.ref T.a_OctetError) none H') ∨ ((∀ b ∈ bs, b = true) ∧ ∃ nss : List (List Nat), Paired (Oct K H) us nss ∧ ((∀ ns ∈ nss, ns.length ≤ 4096) → ∀ H', Kp [] H H' → Q .non H') ∧ ((∃ ns ∈ nss, 4096 < ns.length) → ∀ H', Kp [] H H' → E (.ref T.a_LengthError) none H'))) := by
      rcases h with ⟨bs, h1, h2, h3⟩ | ⟨nss, h1, h2, h3⟩
      · exact ⟨bs, h1, .inl ⟨h2, h3⟩⟩
      · refine ⟨_, paired_true h1, .inr ⟨fun b hb => ?_, nss, h1, h2, h3⟩⟩
        obtain ⟨_, _, rfl⟩ := List.mem_map.mp hb
        rfl
    refine ⟨_, rfl, p, rfl, ⟨us, sqT_of hp⟩, for_it (walk_tup (K := K) (a := p) (xs := us)) (fun i σ H' => (∃ y, σ = [some (.ref p), y]) ∧ Kp [] H H' ∧ ∀ j, j < i → ∀ b, bs[j]? = some b → b = true) ⟨⟨none, rfl⟩, Kp.refl _ _, fun j hj => absurd hj (Nat.not_lt_zero _)⟩ (fun i σ H' _ hv => sqT_of (hv.2.1.at hp)) ?_ ?_⟩
    · rintro i x σ H' H2 hi ⟨⟨y, rfl⟩, kp, hall⟩ ⟨rfl, hx⟩
      obtain ⟨b, hb, ob⟩ := paired_get hbs hx
      refine ⟨_, rfl, x, b, rfl, ob.kp kp, kp.tab _ hP, fun H3 k3 => ⟨b, rfl, ?_⟩⟩
      cases b with
      | true =>
        refine iteF ⟨⟨_, rfl⟩, kp.trans k3, fun j hj b' hb' => ?_⟩
        by_cases e : j = i
        · rw [e, hb] at hb'; cases hb'; rfl
        · exact hall j (by omega) b' hb'
      | false =>
        refine iteT ?_
        rcases hfin with ⟨_, h3⟩ | ⟨h3, _⟩
        · exact h3 H3 (kp.trans k3)
        · exact absurd (h3 false (List.mem_of_getElem? hb)) (by decide)
    · rintro σ H' ⟨⟨y, rfl⟩, kp, hall⟩
      have hl := hbs.length
      rcases hfin with ⟨h2, _⟩ | ⟨_, nss, hn, hq, he⟩
      · obtain ⟨j, hj, e⟩ := List.getElem_of_mem h2
        exact absurd (hall j (by omega) false (by rw [List.getElem?_eq_getElem hj, e])) (by decide)
      · refine ⟨_, rfl, p, rfl, ⟨us, sqT_of (kp.at hp)⟩, for_it (walk_tup (K := K) (a := p) (xs := us)) (fun i σ H' => (∃ y, σ = [some (.ref p), y]) ∧ Kp [] H H' ∧ ∀ j, j < i → ∀ ns, nss[j]? = some ns → ns.length ≤ 4096) ⟨⟨y, rfl⟩, kp, fun j hj => absurd hj (Nat.not_lt_zero _)⟩ (fun i σ H' _ hv => sqT_of (hv.2.1.at hp)) ?_ ?_⟩
        · rintro i x σ H' H2 hi ⟨⟨y, rfl⟩, kp, hall⟩ ⟨rfl, hx⟩
          obtain ⟨ns, hns, a, rfl, hq', hlt⟩ := paired_get hn hx
          refine ⟨_, rfl, a, _, rfl, .inr (kp.seqT hq'), _, 4096, rfl, rfl, _, rfl, ite2 (fun c => ?_) (fun c => ?_)⟩
          · have c' := of_decide_eq_true c
            rw [List.length_map] at c'
            exact he ⟨ns, List.mem_of_getElem? hns, by omega⟩ _ kp
          · refine ⟨⟨_, rfl⟩, kp, fun j hj ns' hns' => ?_⟩
            by_cases e : j = i
            · rw [e, hns] at hns'; cases hns'
              have c' : ¬ ((4096 : Int) < ((ns.map fun n => V.int (n : Nat)).length : Int)) := fun z => c (decide_eq_true z)
              rw [List.length_map] at c'
              omega
            · exact hall j (by omega) ns' hns'
        · rintro σ H' ⟨⟨y, rfl⟩, kp, hall⟩
          have hl2 := hn.length
          refine hq (fun ns hns => ?_) H' kp
          obtain ⟨j, hj, e⟩ := List.getElem_of_mem hns
          exact hall j (by omega) ns (by rw [List.getElem?_eq_getElem hj, e])
  · refine ⟨[], vs, rfl, rfl, Nat.le_trans h.1 (by decide), fun p hp => ⟨p, vs, rfl, upd_same, h.1, (Kp.new (ex := []) hp).tab _ h.2.1, ?_⟩⟩
    have kp : Kp [] H (upd H p (.tup vs)) := Kp.new hp
    rcases h.2.2 with ⟨bs, h1, h2, h3⟩ | ⟨nss, h1, h2, h3⟩
    · exact .inl ⟨bs, Paired.mono' (fun _ _ z => z.kp kp) h1, h2, fun H' k' => h3 H' (kp.trans k')⟩
    · exact .inr ⟨nss, Paired.mono' (fun _ _ z => z.kp kp) h1, fun a H' k' => h2 a H' (kp.trans k'), fun a H' k' => h3 a H' (kp.trans k')⟩
end
end SK
namespace SK
open PySem PySem.Spec PyProof.Rows L2 GxR SM
/-- the octets of n, the least first -/
def leO (n k : Nat) : List Nat := (List.range k).map fun i => n / 2 ^ (8 * i) % 256
def Fits (n z : Int) : Prop := 0 ≤ z ∧ 0 ≤ n ∧ (Builtin.Int.intBits n : Int) ≤ 8 * z
theorem leO_lt {n k : Nat} : ∀ m ∈ leO n k, m < 256 := fun m h => by
  obtain ⟨i, _, rfl⟩ := List.mem_map.mp h
  exact Nat.mod_lt _ (by decide)
abbrev octV (ns : List Nat) : List V := ns.map fun n => V.int (n : Nat)
theorem leO_succ (n k : Nat) : leO n (k + 1) = leO n k ++ [n / 2 ^ (8 * k) % 256] := by
  unfold leO
  rw [List.range_succ, List.map_append]
  rfl
theorem oct_at {n : Int} (h : 0 ≤ n) (i : Nat) : n / 2 ^ ((8 : Int) * (0 + (i : Int))).toNat % 2 ^ 8 = ((n.toNat / 2 ^ (8 * i) % 256 : Nat) : Int) := by
  obtain ⟨m, rfl⟩ := Int.eq_ofNat_of_zero_le h
  have e : ((8 : Int) * (0 + (i : Int))).toNat = 8 * i := by omega
  rw [e, Int.toNat_natCast]
  push_cast
  rfl
section
variable {P : Program} {w : World} {K : PySem.W.Frag} {mg : Str → Option Value} {base : Heap}
def spLittle (K : PySem.W.Frag) (aL : Addr) : Sp := fun vs H Q E => ∃ n z : Int, vs = [.int n, .int z] ∧ z ≤ 4096 ∧ (¬ Fits n z → ∀ H', Kp [] H H' → E (.ref aL) none H') ∧ (Fits n z → ∀ H' v, Kp [] H H' → Oct K H' v (leO n.toNat z.toNat) → Q v H')
theorem ok_little (T : Txt K mg) : FnR P w K mg base (L2.CX P w) 6 T.a_little (spLittle K T.a_LengthError) := by
  refine fn_mkR T.F_little sc_little T.b_little (fun vs H Q E h => ?_) fun cdv A outer s H vs Q E hr h => ?_
  · obtain ⟨n, z, rfl, _⟩ := h
    rfl
  · obtain ⟨n, z, rfl, hz, he, hq⟩ := h
    refine ⟨_, (pss_cons (ps_if (PW.pt (pw_or (pt_cmpR op_lt (pv 1) pe_int (nomark _)) (pw_or (pt_cmpR op_lt (pv 0) pe_int (nomark _)) (pw_or1 (pt_cmpR op_gt (pe_bits (pv 0)) (pe_op op_mul pe_int (pv 1)) (nomark _))))))
      (pss_one (ps_raise rfl (takes_of rfl rfl rfl rfl) (SM.pmk_own0 PySem.F.excBase_ValueError T.xP_LengthError T.g_LengthError T.kP_LengthError (raises_own T.bP_LengthError T.tP_LengthError) (by exact rfl))))
      pss_nil)
      (pss_one (ps_ret (pe_callTy call_tuple_of (by rfl) T.m_tuple (by decide +kernel) (pa_cons (pe_lc (own := [("place", 2)]) (g := gName 2) (tt := tYes) (by rfl) sc_little.nd (pi_range1 (by rfl) T.m_range (pa_cons (pv 1) pa_nil)) (blkOk_by (own := [("place", 2)]) (N := n_little) (sc := defScope s_little) (by decide +kernel)) (fun _ _ _ _ _ => pg_name (i := 2) sc_little.nd rfl (Or.inl rfl)) (fun _ _ _ _ _ => pts_nil) (fun _ _ _ _ _ => (pe_op op_andM (pe_op op_shr (pv 0) (pe_op op_mul pe_int (pv 2))) pe_int))) pa_nil))))), ?_⟩
    -- size < 0 or number < 0 or number.bit_length() > 8 * size
    have bad : ¬ Fits n z → E (.ref T.a_LengthError) none H := fun c => he c H (Kp.refl _ _)
    refine ⟨_, rfl, _, _, rfl, rfl, _, rfl, ite2 (fun c => iteT ?_) (fun c => ?_)⟩
    · exact bad fun f => by have := of_decide_eq_true c; have := f.1; omega
    have c1 : ¬ z < 0 := fun q => c (decide_eq_true q)
    refine ⟨_, rfl, _, _, rfl, rfl, _, rfl, ite2 (fun c => iteT ?_) (fun c => ?_)⟩
    · exact bad fun f => by have := of_decide_eq_true c; have := f.2.1; omega
    have c2 : ¬ n < 0 := fun q => c (decide_eq_true q)
    refine ⟨_, rfl, n, rfl, _, rfl, _, _, rfl, rfl, .inl ⟨by decide, by decide⟩, _, _, rfl, rfl, _, rfl, ite2 (fun c => ?_) (fun c => ?_)⟩
    · exact bad fun f => by have := of_decide_eq_true c; have := f.2.2; omega
    have c3 : ¬ 8 * z < (Builtin.Int.intBits n : Int) := fun q => c (decide_eq_true q)
    have ok : Fits n z := ⟨by omega, by omega, by omega⟩
    -- tuple([..])
    refine ⟨_, rfl, z, rfl, by omega, by omega, fun D hD => lc_it walk_range (fun i H' => Kp [] H H' ∧ H' D = some (.lst (octV (leO n.toNat i)))) ⟨Kp.new hD, upd_same⟩ (fun _ _ _ _ => True.intro) ?_ ?_⟩
    · rintro i x H1 H2 hi ⟨kp, hl⟩ ⟨rfl, rfl⟩
      refine ⟨rfl, ?_⟩
      refine yes_then ?_
      refine ⟨_, rfl, _, rfl, _, _, rfl, rfl, .inl ⟨by decide, by decide⟩, _, _, rfl, rfl, by show (0 : Int) ≤ 8 * (0 + (i : Int)); omega, _, 8, rfl, rfl, ?_⟩
      refine ⟨_, hl, ?_, kp.upd hD, ?_⟩
      · rw [List.length_map]; unfold leO; rw [List.length_map, List.length_range]
        exact Nat.lt_of_lt_of_le (show i < 4097 by omega) (by decide)
      · rw [upd_same, leO_succ, oct_at (show 0 ≤ n by omega) i]
        show _ = some (HO.lst ((leO n.toNat i ++ [n.toNat / 2 ^ (8 * i) % 256]).map fun n => V.int (n : Nat)))
        rw [List.map_append]
        rfl
    · rintro H1 ⟨kp, hl⟩
      refine ⟨D, _, rfl, .inl ⟨sqL_of hl, fun l hl' => ?_⟩⟩
      exact hq ok _ _ (kp.trans (Kp.new hl')) ⟨l, rfl, sqT_of upd_same, leO_lt⟩
end
end SK
namespace SK
open PySem PySem.Spec PyProof.Rows L2 GxR SM
def valB (ns : List Nat) : Nat := ns.foldl (fun a o => a * 256 + o) 0
theorem valB_snoc (ns : List Nat) (o : Nat) : valB (ns ++ [o]) = valB ns * 256 + o := by
  unfold valB
  rw [List.foldl_append]
  rfl
theorem fold_lt : ∀ (ns : List Nat) (a : Nat), (∀ n ∈ ns, n < 256) → ns.foldl (fun a o => a * 256 + o) a < (a + 1) * 256 ^ ns.length
  | [], a, _ => by show a < (a + 1) * 1; omega
  | n :: ns, a, h => by
    have h1 := fold_lt ns (a * 256 + n) fun m hm => h m (List.mem_cons_of_mem _ hm)
    have h2 := h n List.mem_cons_self
    refine Nat.lt_of_lt_of_le h1 ?_
    rw [List.length_cons, Nat.pow_succ, Nat.mul_comm (256 ^ ns.length) 256, ← Nat.mul_assoc]
    exact Nat.mul_le_mul_right _ (by omega)
theorem valB_lt (ns : List Nat) (h : ∀ n ∈ ns, n < 256) : valB ns < 2 ^ (8 * ns.length) := by
  have z := fold_lt ns 0 h
  rw [Nat.pow_mul, show (2 : Nat) ^ 8 = 256 by decide]
  unfold valB
  omega
theorem take_snoc {α : Type} {l : List α} {i : Nat} {x : α} (h : l[i]? = some x) : l.take (i + 1) = l.take i ++ [x] := by
  rw [List.take_add_one, h]
  rfl
theorem octV_get {ns : List Nat} {i : Nat} {x : V} (h : (octV ns)[i]? = some x) : ∃ n, ns[i]? = some n ∧ x = .int (n : Nat) := by
  rw [List.getElem?_map] at h
  cases e : ns[i]? with
  | none => rw [e] at h; cases h
  | some n =>
    rw [e] at h
    exact ⟨n, rfl, (Option.some.inj h).symm⟩
section
variable {P : Program} {w : World} {K : PySem.W.Frag} {mg : Str → Option Value} {base : Heap}
/-- a def of one octet string: what is asked of the value, the octets' answer -/
def sp1 (K : PySem.W.Frag) (P aO aL : Addr) (R : List Nat → Hp → VK → Prop) : Sp := fun vs H Q E => ∃ v, vs = [v] ∧ TabG H P ∧
  ((OArg K H v false ∧ ∀ H', Kp [] H H' → E (.ref aO) none H') ∨
   ∃ ns, Oct K H v ns ∧ (4096 < ns.length → ∀ H', Kp [] H H' → E (.ref aL) none H') ∧ (ns.length ≤ 4096 → R ns H Q))
def rInt (f : List Nat → Int) : List Nat → Hp → VK → Prop := fun ns H Q => ∀ H', Kp [] H H' → Q (.int (f ns)) H'
theorem sp1_len {K : PySem.W.Frag} {P aO aL : Addr} {R : List Nat → Hp → VK → Prop} (vs : List V) (H : Hp) (Q : VK) (E : XK) (h : sp1 K P aO aL R vs H Q E) : vs.length = 1 := by
  obtain ⟨v, rfl, _⟩ := h
  rfl
/-- check_octets(v) ahead of a body: what goes on -/
theorem ck1 {K : PySem.W.Frag} {P aO aL : Addr} {v : V} {H : Hp} {Q : VK} {E : XK} (hP : TabG H P)
    (h : (OArg K H v false ∧ ∀ H', Kp [] H H' → E (.ref aO) none H') ∨ ∃ ns, Oct K H v ns ∧ (4096 < ns.length → ∀ H', Kp [] H H' → E (.ref aL) none H') ∧ (ns.length ≤ 4096 → ∀ H', Kp [] H H' → Q .non H')) : spCheck K P aO aL [v] H Q E := by
  refine ⟨by show 1 ≤ 8; decide, hP, ?_⟩
  rcases h with ⟨h1, h2⟩ | ⟨ns, h1, h2, h3⟩
  · exact .inl ⟨[false], .cons h1 .nil, by simp, h2⟩
  · refine .inr ⟨[ns], .cons h1 .nil, fun a => h3 (a ns (by simp)), fun ⟨n, hn, l⟩ => ?_⟩
    have e : n = ns := by simpa using hn
    subst e
    exact h2 l
theorem ok_from_big (T : Txt K mg) (G_check_octets : FnR P w K mg base (L2.CX P w) 6 T.a_check_octets (spCheck K T.P_is_octets T.a_OctetError T.a_LengthError)) :
    FnR P w K mg base (L2.CX P w) 8 T.a_from_big (sp1 K T.P_is_octets T.a_OctetError T.a_LengthError (rInt fun ns => (valB ns : Nat))) := by
  refine fn_mkR T.F_from_big sc_from_big T.b_from_big sp1_len fun cdv A outer s H vs Q E hr h => ?_
  obtain ⟨v, rfl, hP, h⟩ := h
  refine ⟨_, (pss_cons (ps_expr (SM.pe_callR G_check_octets (hr.mono (by decide)) (by rfl) T.g_check_octets T.F_check_octets.kp (SM.passE rfl rfl rfl rfl) (pa_cons (pv 0) pa_nil)))
      (pss_cons (ps_set (i := 1) sc_from_big.nd rfl (Or.inl rfl) pe_int)
      (pss_cons (ps_for (passes_of rfl) rfl (pi_tup (pv 0)) (pg_name (i := 2) sc_from_big.nd rfl (Or.inl rfl))
      (pss_one (ps_set (i := 1) sc_from_big.nd rfl (Or.inl rfl) (pe_op op_orL (pe_op op_shlW (pv 1) pe_int) (pv 2)))))
      (pss_one (ps_ret (pv 1)))))), ?_⟩
  refine ⟨_, rfl, ?_⟩
  dsimp only [tNil]
  refine ck1 hP ?_
  rcases h with h | ⟨ns, ho, h1, h2⟩
  · exact .inl h
  refine .inr ⟨ns, ho, h1, fun hl H1 k1 => ?_⟩
  obtain ⟨a, rfl, hs, hlt⟩ := ho.kp k1
  refine ⟨_, rfl, a, rfl, ⟨_, hs⟩, for_it (walk_tup (K := K) (a := a) (xs := octV ns)) (fun i σ H' => (∃ y, σ = [some (.ref a), some (.int (valB (ns.take i) : Nat)), y]) ∧ H' = H1) ⟨⟨none, rfl⟩, rfl⟩ (fun i σ H' _ hv => by rw [hv.2]; exact hs) ?_ ?_⟩
  · rintro i x σ H' H2 hi ⟨⟨y, rfl⟩, rfl⟩ ⟨rfl, hx⟩
    obtain ⟨n, hn, rfl⟩ := octV_get hx
    have h1 := hlt n (List.mem_of_getElem? hn)
    have hli : (ns.take i).length ≤ 4096 := by rw [List.length_take]; omega
    have hb := valB_lt (ns.take i) fun m hm => hlt m (List.mem_of_mem_take hm)
    refine ⟨_, rfl, _, _, rfl, rfl, shl_ok (j := 8) (n := 8 * (ns.take i).length) (by rw [Int.natAbs_natCast]; exact hb) (by omega), _, rfl, (valB (ns.take i) : Nat), n, 8, rfl, rfl, ⟨by omega, by omega, by show (n : Int) < 256; omega⟩, ?_⟩
    refine ⟨⟨some (.int (n : Nat)), ?_⟩, rfl⟩
    rw [take_snoc hn, valB_snoc]
    have e : ((valB (ns.take i) : Nat) : Int) * 2 ^ 8 + (n : Nat) = ((valB (ns.take i) * 256 + n : Nat) : Int) := by omega
    rw [e]
    rfl
  · rintro σ H' ⟨⟨y, rfl⟩, rfl⟩
    refine ⟨_, rfl, ?_⟩
    have e : ns.take (octV ns).length = ns := by rw [List.length_map, List.take_length]
    rw [e]
    exact h2 hl _ k1
theorem Oct.rev {K : PySem.W.Frag} {H : Hp} {a p : Addr} {ns : List Nat} (hlt : ∀ n ∈ ns, n < 256) : Oct K (upd H p (.tup (octV ns).reverse)) (.ref p) ns.reverse :=
  ⟨p, rfl, sqT_of (by rw [upd_same]; unfold octV; rw [List.map_reverse]), fun n hn => hlt n (List.mem_reverse.mp hn)⟩
theorem ok_from_little (T : Txt K mg) (G_check_octets : FnR P w K mg base (L2.CX P w) 6 T.a_check_octets (spCheck K T.P_is_octets T.a_OctetError T.a_LengthError))
    (G_from_big : FnR P w K mg base (L2.CX P w) 8 T.a_from_big (sp1 K T.P_is_octets T.a_OctetError T.a_LengthError (rInt fun ns => (valB ns : Nat)))) :
    FnR P w K mg base (L2.CX P w) 9 T.a_from_little (sp1 K T.P_is_octets T.a_OctetError T.a_LengthError (rInt fun ns => (valB ns.reverse : Nat))) := by
  refine fn_mkR T.F_from_little sc_from_little T.b_from_little sp1_len fun cdv A outer s H vs Q E hr h => ?_
  obtain ⟨v, rfl, hP, h⟩ := h
  refine ⟨_, (pss_cons (ps_expr (SM.pe_callR G_check_octets (hr.mono (by decide)) (by rfl) T.g_check_octets T.F_check_octets.kp (SM.passE rfl rfl rfl rfl) (pa_cons (pv 0) pa_nil)))
      (pss_one (ps_ret (SM.pe_callR G_from_big (hr.mono (by decide)) (by rfl) T.g_from_big T.F_from_big.kp (SM.passE rfl rfl rfl rfl) (pa_cons (SM.pe_revT (pv 0)) pa_nil))))), ?_⟩
  refine ⟨_, rfl, ?_⟩
  dsimp only [tNil]
  refine ck1 hP ?_
  rcases h with h | ⟨ns, ho, h1, h2⟩
  · exact .inl h
  refine .inr ⟨ns, ho, h1, fun hl H1 k1 => ?_⟩
  obtain ⟨a, rfl, hs, hlt⟩ := ho.kp k1
  refine ⟨_, rfl, a, _, rfl, hs, fun p hp => ?_⟩
  have k2 : Kp [] H1 (upd H1 p (.tup (octV ns).reverse)) := Kp.new hp
  refine ⟨_, rfl, k2.tab _ (k1.tab _ hP), .inr ⟨ns.reverse, Oct.rev (a := a) hlt, fun z => ?_, fun _ H3 k3 => h2 hl H3 ((k1.trans k2).trans k3)⟩⟩
  rw [List.length_reverse] at z
  omega
/-- big(number, size) -/
def spBig (K : PySem.W.Frag) (aL : Addr) : Sp := fun vs H Q E => ∃ n z : Int, vs = [.int n, .int z] ∧ z ≤ 4096 ∧ (¬ Fits n z → ∀ H', Kp [] H H' → E (.ref aL) none H') ∧ (Fits n z → ∀ H' v, Kp [] H H' → Oct K H' v (leO n.toNat z.toNat).reverse → Q v H')
theorem ok_big (T : Txt K mg) (G_little : FnR P w K mg base (L2.CX P w) 6 T.a_little (spLittle K T.a_LengthError)) : FnR P w K mg base (L2.CX P w) 7 T.a_big (spBig K T.a_LengthError) := by
  refine fn_mkR T.F_big sc_big T.b_big (fun vs H Q E h => ?_) fun cdv A outer s H vs Q E hr h => ?_
  · obtain ⟨n, z, rfl, _⟩ := h
    rfl
  · obtain ⟨n, z, rfl, hz, he, hq⟩ := h
    refine ⟨_, (pss_one (ps_ret (SM.pe_revT (SM.pe_callR G_little (hr.mono (by decide)) (by rfl) T.g_little T.F_little.kp (SM.passE rfl rfl rfl rfl) (pa_cons (pv 0) (pa_cons (pv 1) pa_nil)))))), ?_⟩
    refine ⟨_, rfl, _, rfl, n, z, rfl, hz, he, fun ok H1 v k1 ho => ?_⟩
    obtain ⟨a, rfl, hs, hlt⟩ := ho
    refine ⟨a, _, rfl, hs, fun p hp => hq ok _ _ (k1.trans (Kp.new hp)) (Oct.rev (a := a) hlt)⟩
/-- the bits in which both differ -/
def xorO (a b : List Nat) : List Nat := List.zipWith (· ^^^ ·) a b
/-- a def of two octet strings -/
def sp2 (K : PySem.W.Frag) (P aO aL : Addr) (R : List Nat → List Nat → Hp → VK → XK → Prop) : Sp := fun vs H Q E => ∃ v u, vs = [v, u] ∧ TabG H P ∧
  ((∃ bs, Paired (OArg K H) [v, u] bs ∧ false ∈ bs ∧ ∀ H', Kp [] H H' → E (.ref aO) none H') ∨
   ∃ ns ms, Oct K H v ns ∧ Oct K H u ms ∧ (4096 < ns.length ∨ 4096 < ms.length → ∀ H', Kp [] H H' → E (.ref aL) none H') ∧ (ns.length ≤ 4096 → ms.length ≤ 4096 → R ns ms H Q E))
theorem sp2_len {K : PySem.W.Frag} {P aO aL : Addr} {R : List Nat → List Nat → Hp → VK → XK → Prop} (vs : List V) (H : Hp) (Q : VK) (E : XK) (h : sp2 K P aO aL R vs H Q E) : vs.length = 2 := by
  obtain ⟨v, u, rfl, _⟩ := h
  rfl
theorem ck2 {K : PySem.W.Frag} {P aO aL : Addr} {v u : V} {H : Hp} {Q : VK} {E : XK} (hP : TabG H P)
    (h : (∃ bs, Paired (OArg K H) [v, u] bs ∧ false ∈ bs ∧ ∀ H', Kp [] H H' → E (.ref aO) none H') ∨ ∃ ns ms, Oct K H v ns ∧ Oct K H u ms ∧ (4096 < ns.length ∨ 4096 < ms.length → ∀ H', Kp [] H H' → E (.ref aL) none H') ∧ (ns.length ≤ 4096 → ms.length ≤ 4096 → ∀ H', Kp [] H H' → Q .non H')) : spCheck K P aO aL [v, u] H Q E := by
  refine ⟨by show 2 ≤ 8; decide, hP, ?_⟩
  rcases h with ⟨bs, h1, h2, h3⟩ | ⟨ns, ms, h1, h1', h2, h3⟩
  · exact .inl ⟨bs, h1, h2, h3⟩
  · refine .inr ⟨[ns, ms], .cons h1 (.cons h1' .nil), fun a => h3 (a ns (by simp)) (a ms (by simp)), fun ⟨n, hn, l⟩ => ?_⟩
    have e : n = ns ∨ n = ms := by simpa using hn
    rcases e with rfl | rfl
    · exact h2 (.inl l)
    · exact h2 (.inr l)
def rXor (K : PySem.W.Frag) (aL : Addr) : List Nat → List Nat → Hp → VK → XK → Prop := fun ns ms H Q E =>
  (ns.length ≠ ms.length → ∀ H', Kp [] H H' → E (.ref aL) none H') ∧ (ns.length = ms.length → ∀ H' v, Kp [] H H' → Oct K H' v (xorO ns ms) → Q v H')
theorem xorO_get {ns ms : List Nat} {i n m : Nat} (h : ns[i]? = some n) (h' : ms[i]? = some m) : (xorO ns ms)[i]? = some (n ^^^ m) := by
  unfold xorO
  rw [List.getElem?_zipWith, h, h']
theorem xorO_len {ns ms : List Nat} (h : ns.length = ms.length) : (xorO ns ms).length = ns.length := by
  unfold xorO
  rw [List.length_zipWith]
  omega
theorem octV_snoc (l : List Nat) (n : Nat) : octV (l ++ [n]) = octV l ++ [V.int (n : Nat)] := by
  unfold octV
  rw [List.map_append]
  rfl
theorem xor_nn (n m : Nat) : Builtin.bitXor (n : Int) (m : Int) = ((n ^^^ m : Nat) : Int) := by
  rw [Bits.bitXor_pp (by omega) (by omega), Int.toNat_natCast, Int.toNat_natCast]
theorem xorO_lt : ∀ {ns ms : List Nat}, (∀ n ∈ ns, n < 256) → (∀ n ∈ ms, n < 256) → ∀ n ∈ xorO ns ms, n < 256
  | [], _, _, _, n, hn => by cases hn
  | _ :: _, [], _, _, n, hn => by cases hn
  | a :: ns, b :: ms, h, h', n, hn => by
    rcases List.mem_cons.mp (show n ∈ (a ^^^ b) :: xorO ns ms from hn) with e | e
    · rw [e]
      exact Nat.xor_lt_two_pow (n := 8) (h _ List.mem_cons_self) (h' _ List.mem_cons_self)
    · exact xorO_lt (fun m hm => h m (List.mem_cons_of_mem _ hm)) (fun m hm => h' m (List.mem_cons_of_mem _ hm)) n e
theorem ok_xor (T : Txt K mg) (G_check_octets : FnR P w K mg base (L2.CX P w) 6 T.a_check_octets (spCheck K T.P_is_octets T.a_OctetError T.a_LengthError)) :
    FnR P w K mg base (L2.CX P w) 8 T.a_xor (sp2 K T.P_is_octets T.a_OctetError T.a_LengthError (rXor K T.a_LengthError)) := by
  refine fn_mkR T.F_xor sc_xor T.b_xor sp2_len fun cdv A outer s H vs Q E hr h => ?_
  obtain ⟨v, u, rfl, hP, h⟩ := h
  refine ⟨_, (pss_cons (ps_expr (SM.pe_callR G_check_octets (hr.mono (by decide)) (by rfl) T.g_check_octets T.F_check_octets.kp (SM.passE rfl rfl rfl rfl) (pa_cons (pv 0) (pa_cons (pv 1) pa_nil))))
      (pss_cons (ps_if (pt_cmpR op_ne (pe_callB call_len_seq (by rfl) T.m_len (by decide +kernel) (pa_cons (pv 0) pa_nil)) (pe_callB call_len_seq (by rfl) T.m_len (by decide +kernel) (pa_cons (pv 1) pa_nil)) (nomark _))
      (pss_one (ps_raise rfl (takes_of rfl rfl rfl rfl) (SM.pmk_own0 PySem.F.excBase_ValueError T.xP_LengthError T.g_LengthError T.kP_LengthError (raises_own T.bP_LengthError T.tP_LengthError) (by exact rfl))))
      pss_nil)
      (pss_one (ps_ret (pe_callTy call_tuple_of (by rfl) T.m_tuple (by decide +kernel) (pa_cons (pe_lc (own := [("one", 2), ("other", 3)]) (g := gTup K 2 (gCons (gName 2) (gCons (gName 3) gNil))) (tt := tYes) (by rfl) sc_xor.nd (RZ.pi_zipA (by rfl) T.m_zip (pa_cons (pv 0) (pa_cons (pv 1) pa_nil))) (blkOk_by (own := [("one", 2), ("other", 3)]) (N := n_xor) (sc := defScope s_xor) (by decide +kernel)) (fun _ _ _ _ _ => by exact pg_tup rfl (pgs_cons (pg_name (i := 2) sc_xor.nd rfl (Or.inl rfl)) (pgs_cons (pg_name (i := 3) sc_xor.nd rfl (Or.inl rfl)) pgs_nil))) (fun _ _ _ _ _ => pts_nil) (fun _ _ _ _ _ => (pe_op op_xor (pv 2) (pv 3)))) pa_nil)))))), ?_⟩
  refine ⟨_, rfl, _, rfl, ?_⟩
  dsimp only [tNil]
  refine ck2 hP ?_
  rcases h with h | ⟨ns, ms, ho, ho', h1, h2⟩
  · exact .inl h
  refine .inr ⟨ns, ms, ho, ho', h1, fun hl hl' H1 k1 => ?_⟩
  obtain ⟨a, rfl, hs, hlt⟩ := ho.kp k1
  obtain ⟨b, rfl, hs', hlt'⟩ := ho'.kp k1
  obtain ⟨q1, q2⟩ := h2 hl hl'
  refine ⟨_, rfl, a, _, rfl, .inr hs, _, rfl, b, _, rfl, .inr hs', rfl, _, rfl, ?_⟩
  rw [List.length_map, List.length_map]
  by_cases e : ns.length = ms.length
  · have e2 : (!decide ((V.int (ns.length : Nat)) = V.int (ms.length : Nat))) = false := by rw [e]; simp
    rw [e2]
    refine iteF ?_
    refine ⟨_, rfl, _, rfl, a, b, _, _, rfl, .inr ⟨hs, hs', fun D hD => lc_it (walk_zipT (K := K) rfl) (fun i H' => Kp [] H1 H' ∧ H' D = some (.lst (octV ((xorO ns ms).take i)))) ⟨Kp.new hD, upd_same⟩ (fun _ _ _ hv => ⟨hv.1.seqT hs, hv.1.seqT hs'⟩) ?_ ?_⟩⟩
    · rintro i x H2 H3 hi ⟨k2, hl3⟩ ⟨TT, x1, x2, rfl, nT, rfl, g1, g2⟩
      obtain ⟨n, hn, rfl⟩ := octV_get g1
      obtain ⟨m, hm, rfl⟩ := octV_get g2
      refine ⟨TT, [_, _], rfl, sqT_of upd_same, rfl, _, [_], rfl, _, [], rfl, rfl, rfl, ?_⟩
      have kT : Kp [] H2 (upd H2 TT (.tup [.int (n : Nat), .int (m : Nat)])) := Kp.new nT
      refine yes_then ?_
      refine ⟨_, rfl, _, rfl, _, _, rfl, rfl, _, kT.at hl3, ?_, (k2.trans kT).upd hD, ?_⟩
      · rw [List.length_map, List.length_take]
        exact Nat.lt_of_le_of_lt (Nat.min_le_right _ _) (by rw [xorO_len e]; exact Nat.lt_of_le_of_lt hl (by decide))
      · rw [upd_same, take_snoc (xorO_get hn hm), octV_snoc, ← xor_nn]
    · rintro H2 ⟨k2, hl3⟩
      have e3 : (xorO ns ms).take (min (octV ns).length (octV ms).length) = xorO ns ms := List.take_of_length_le (by rw [xorO_len e, List.length_map, List.length_map]; omega)
      rw [e3] at hl3
      exact ⟨D, _, rfl, .inl ⟨sqL_of hl3, fun l hl' => q2 e _ _ ((k1.trans k2).trans (Kp.new hl')) ⟨l, rfl, sqT_of upd_same, xorO_lt hlt hlt'⟩⟩⟩
  · have e2 : (!decide ((V.int (ns.length : Nat)) = V.int (ms.length : Nat))) = true := by
      simp
      omega
    rw [e2]
    exact iteT (q1 e H1 k1)
end
end SK
namespace SK
open PySem PySem.Spec PyProof.Rows L2 GxR SM
/-- the differences, combined -/
def orO (ds : List Nat) : Nat := ds.foldl (· ||| ·) 0
theorem orO_snoc (ds : List Nat) (d : Nat) : orO (ds ++ [d]) = orO ds ||| d := by
  unfold orO
  rw [List.foldl_append]
  rfl
theorem or_zero {a b : Nat} : a ||| b = 0 ↔ a = 0 ∧ b = 0 := by
  constructor
  · intro h
    have h1 : a ≤ a ||| b := Nat.left_le_or
    have h2 : b ≤ a ||| b := Nat.right_le_or
    omega
  · rintro ⟨rfl, rfl⟩
    rfl
theorem fold_or : ∀ (ds : List Nat) (a : Nat), ds.foldl (· ||| ·) a = 0 ↔ a = 0 ∧ ∀ d ∈ ds, d = 0
  | [], a => by simp
  | d :: ds, a => by
    show ds.foldl (· ||| ·) (a ||| d) = 0 ↔ _
    rw [fold_or ds (a ||| d), or_zero]
    simp
    exact and_assoc
theorem xor_zero {a b : Nat} : a ^^^ b = 0 ↔ a = b := by
  constructor
  · intro h
    have e : a ^^^ b ^^^ b = b := by rw [h, Nat.zero_xor]
    rw [Nat.xor_assoc, Nat.xor_self, Nat.xor_zero] at e
    exact e
  · rintro rfl
    exact Nat.xor_self a
theorem xorO_zero : ∀ {ns ms : List Nat}, ns.length = ms.length → ((∀ d ∈ xorO ns ms, d = 0) ↔ ns = ms)
  | [], [], _ => by simp [xorO]
  | [], _ :: _, h => by cases h
  | _ :: _, [], h => by cases h
  | a :: ns, b :: ms, h => by
    have ih := xorO_zero (ns := ns) (ms := ms) (by simpa using h)
    show (∀ d ∈ (a ^^^ b) :: xorO ns ms, d = 0) ↔ _
    rw [List.forall_mem_cons, ih, xor_zero]
    simp
theorem or_nn (n m : Nat) : Builtin.bitOr (n : Int) (m : Int) = ((n ||| m : Nat) : Int) := by
  rw [Bits.bitOr_pp (by omega) (by omega), Int.toNat_natCast, Int.toNat_natCast]
section
variable {P : Program} {w : World} {K : PySem.W.Frag} {mg : Str → Option Value} {base : Heap}
def rSame : List Nat → List Nat → Hp → VK → XK → Prop := fun ns ms H Q _ => ∀ H', Kp [] H H' → Q (.bl (decide (ns = ms))) H'
theorem ok_same_octets (T : Txt K mg) (G_check_octets : FnR P w K mg base (L2.CX P w) 6 T.a_check_octets (spCheck K T.P_is_octets T.a_OctetError T.a_LengthError)) :
    FnR P w K mg base (L2.CX P w) 8 T.a_same_octets (sp2 K T.P_is_octets T.a_OctetError T.a_LengthError rSame) := by
  refine fn_mkR T.F_same_octets sc_same_octets T.b_same_octets sp2_len fun cdv A outer s H vs Q E hr h => ?_
  obtain ⟨v, u, rfl, hP, h⟩ := h
  refine ⟨_, (pss_cons (ps_expr (SM.pe_callR G_check_octets (hr.mono (by decide)) (by rfl) T.g_check_octets T.F_check_octets.kp (SM.passE rfl rfl rfl rfl) (pa_cons (pv 0) (pa_cons (pv 1) pa_nil))))
      (pss_cons (ps_if (pt_cmpR op_ne (pe_callB call_len_seq (by rfl) T.m_len (by decide +kernel) (pa_cons (pv 0) pa_nil)) (pe_callB call_len_seq (by rfl) T.m_len (by decide +kernel) (pa_cons (pv 1) pa_nil)) (nomark _))
      (pss_one (ps_ret pe_bl))
      pss_nil)
      (pss_cons (ps_set (i := 2) sc_same_octets.nd rfl (Or.inl rfl) pe_int)
      (pss_cons (ps_for (passes_of rfl) rfl (RZ.pi_zipA (by rfl) T.m_zip (pa_cons (pv 0) (pa_cons (pv 1) pa_nil))) (pg_tup rfl (pgs_cons (pg_name (i := 3) sc_same_octets.nd rfl (Or.inl rfl)) (pgs_cons (pg_name (i := 4) sc_same_octets.nd rfl (Or.inl rfl)) pgs_nil)))
      (pss_one (ps_set (i := 2) sc_same_octets.nd rfl (Or.inl rfl) (pe_op op_or (pv 2) (pe_op op_xor (pv 3) (pv 4))))))
      (pss_one (ps_ret (pe_cmpR op_eq (pv 2) pe_int (nomark _)))))))), ?_⟩
  refine ⟨_, rfl, _, rfl, ?_⟩
  dsimp only [tNil]
  refine ck2 hP ?_
  rcases h with h | ⟨ns, ms, ho, ho', h1, h2⟩
  · exact .inl h
  refine .inr ⟨ns, ms, ho, ho', h1, fun hl hl' H1 k1 => ?_⟩
  obtain ⟨a, rfl, hs, hlt⟩ := ho.kp k1
  obtain ⟨b, rfl, hs', hlt'⟩ := ho'.kp k1
  have q : ∀ H', Kp [] H H' → Q (.bl (decide (ns = ms))) H' := h2 hl hl'
  refine ⟨_, rfl, a, _, rfl, .inr hs, _, rfl, b, _, rfl, .inr hs', rfl, _, rfl, ?_⟩
  rw [List.length_map, List.length_map]
  by_cases e : ns.length = ms.length
  · have e2 : (!decide ((V.int (ns.length : Nat)) = V.int (ms.length : Nat))) = false := by rw [e]; simp
    rw [e2]
    refine iteF ?_
    refine ⟨_, rfl, _, rfl, a, b, _, _, rfl, .inr ⟨hs, hs', for_it (walk_zipT (K := K) rfl) (fun i σ H' => (∃ y z, σ = [some (.ref a), some (.ref b), some (.int (orO ((xorO ns ms).take i) : Nat)), y, z]) ∧ Kp [] H1 H') ⟨⟨none, none, rfl⟩, Kp.refl _ _⟩ (fun _ _ _ _ hv => ⟨hv.2.seqT hs, hv.2.seqT hs'⟩) ?_ ?_⟩⟩
    · rintro i x σ H2 H3 hi ⟨⟨y, z, rfl⟩, k2⟩ ⟨TT, x1, x2, rfl, nT, rfl, g1, g2⟩
      obtain ⟨n, hn, rfl⟩ := octV_get g1
      obtain ⟨m, hm, rfl⟩ := octV_get g2
      refine ⟨TT, [_, _], rfl, sqT_of upd_same, rfl, _, [_], rfl, _, [], rfl, rfl, ?_⟩
      refine ⟨_, rfl, _, rfl, _, rfl, _, _, rfl, rfl, _, _, rfl, rfl, ⟨some (.int (n : Nat)), some (.int (m : Nat)), ?_⟩, k2.trans (Kp.new nT)⟩
      · rw [take_snoc (xorO_get hn hm), orO_snoc, ← or_nn, ← xor_nn]
        rfl
    · rintro σ H2 ⟨⟨y, z, rfl⟩, k2⟩
      have e3 : (xorO ns ms).take (min (octV ns).length (octV ms).length) = xorO ns ms := List.take_of_length_le (by rw [xorO_len e, List.length_map, List.length_map]; omega)
      refine ⟨_, rfl, rfl, ?_⟩
      rw [e3]
      have e4 : decide (V.int (orO (xorO ns ms) : Nat) = V.int 0) = decide (ns = ms) := by
        have z := fold_or (xorO ns ms) 0
        have z2 := xorO_zero e
        rw [decide_eq_decide]
        constructor
        · intro h
          have h' : ((orO (xorO ns ms) : Nat) : Int) = 0 := V.int.inj h
          have h'' : orO (xorO ns ms) = 0 := by omega
          exact z2.mp (z.mp h'').2
        · intro h
          have h'' : orO (xorO ns ms) = 0 := z.mpr ⟨rfl, z2.mpr h⟩
          rw [h'']
          rfl
      rw [e4]
      exact q H2 (k1.trans k2)
  · have e2 : (!decide ((V.int (ns.length : Nat)) = V.int (ms.length : Nat))) = true := by
      simp
      omega
    have e3 : decide (ns = ms) = false := decide_eq_false fun z => e (by rw [z])
    rw [e3] at q
    rw [e2]
    exact iteT (q H1 k1)
/-- a value that is none: whatever follows is never reached -/
def spBad (K : PySem.W.Frag) (P aO : Addr) : Sp := fun vs H _ E => ∃ v, vs = [v] ∧ TabG H P ∧ OArg K H v false ∧ ∀ H', Kp [] H H' → E (.ref aO) none H'
theorem ok_to_hex (T : Txt K mg) (G_check_octets : FnR P w K mg base (L2.CX P w) 6 T.a_check_octets (spCheck K T.P_is_octets T.a_OctetError T.a_LengthError)) :
    FnR P w K mg base (L2.CX P w) 8 T.a_to_hex (spBad K T.P_is_octets T.a_OctetError) := by
  refine fn_mkR T.F_to_hex sc_to_hex T.b_to_hex (fun vs H Q E h => ?_) fun cdv A outer s H vs Q E hr h => ?_
  · obtain ⟨v, rfl, _⟩ := h
    rfl
  · obtain ⟨v, rfl, hP, hb, he⟩ := h
    refine ⟨_, (pss_cons (ps_expr (SM.pe_callR G_check_octets (hr.mono (by decide)) (by rfl) T.g_check_octets T.F_check_octets.kp (SM.passE rfl rfl rfl rfl) (pa_cons (pv 0) pa_nil)))
      (pss_one ps_never)), ?_⟩
    refine ⟨_, rfl, ?_⟩
    dsimp only [tNil]
    exact ck1 (aL := T.a_LengthError) hP (.inl ⟨hb, he⟩)
theorem ok_to_base64 (T : Txt K mg) (G_check_octets : FnR P w K mg base (L2.CX P w) 6 T.a_check_octets (spCheck K T.P_is_octets T.a_OctetError T.a_LengthError)) :
    FnR P w K mg base (L2.CX P w) 8 T.a_to_base64 (spBad K T.P_is_octets T.a_OctetError) := by
  refine fn_mkR T.F_to_base64 sc_to_base64 T.b_to_base64 (fun vs H Q E h => ?_) fun cdv A outer s H vs Q E hr h => ?_
  · obtain ⟨v, rfl, _⟩ := h
    rfl
  · obtain ⟨v, rfl, hP, hb, he⟩ := h
    refine ⟨_, (pss_cons (ps_expr (SM.pe_callR G_check_octets (hr.mono (by decide)) (by rfl) T.g_check_octets T.F_check_octets.kp (SM.passE rfl rfl rfl rfl) (pa_cons (pv 0) pa_nil)))
      (pss_one ps_never)), ?_⟩
    refine ⟨_, rfl, ?_⟩
    dsimp only [tNil]
    exact ck1 (aL := T.a_LengthError) hP (.inl ⟨hb, he⟩)
end
end SK
namespace SK
open PySem PySem.Spec PyProof.Rows L2 GxR SM
/-- the script's list at L, the state of the draws at S: what is left of a cell, the place, the seed -/
def Drw (K : PySem.W.Frag) (H : Hp) (S L : Addr) : Prop := (∃ ns : List Int, SqL K H L (ns.map V.int)) ∧ L ≠ S ∧ ∃ c p d : Int, H S = some (.lst [.ref L, .int c, .int p, .int d]) ∧ 0 ≤ c ∧ 0 ≤ p ∧ 0 ≤ d ∧ d < 2 ^ 40
theorem Drw.kp {K : PySem.W.Frag} {H H' : Hp} {S L : Addr} (k : Kp [] H H') (h : Drw K H S L) : Drw K H' S L := by
  obtain ⟨⟨ns, h2⟩, hne, c, p, d, h1, r⟩ := h
  exact ⟨⟨ns, k.seqL h2⟩, hne, c, p, d, k.at h1, r⟩
/-- a list that is new to H1 is written -/
theorem Drw.put {K : PySem.W.Frag} {H1 H' : Hp} {S L D : Addr} {o : HO} (h1 : Drw K H1 S L) (hD : H1 D = none) (h : Drw K H' S L) (k : Kp [S] H1 H') : Drw K (upd H' D o) S L := by
  obtain ⟨⟨ns, g1⟩, hne, c, p, d, g2, _⟩ := h1
  obtain ⟨_, _, c', p', d', e, r⟩ := h
  have n : S ≠ D := ne_of_none g2 hD
  exact ⟨⟨ns, (k.upd hD).seqL g1 (by simpa using hne)⟩, hne, c', p', d', by rw [upd_ne n]; exact e, r⟩
theorem ints_get {ns : List Int} {i : Nat} (h : i < ns.length) : (ns.map V.int)[i]? = some (.int (ns[i]'h)) := by
  rw [List.getElem?_map, List.getElem?_eq_getElem h]
  rfl
section
variable {P : Program} {w : World} {K : PySem.W.Frag} {mg : Str → Option Value} {base : Heap}
/-- a draw: any number below many; the state goes on -/
def spDraw (K : PySem.W.Frag) : Sp := fun vs H Q _ => ∃ (S L : Addr) (m : Int), vs = [.ref S, .int m] ∧ 0 < m ∧ m ≤ 2 ^ 50 ∧ Drw K H S L ∧ ∀ H' v, 0 ≤ v → v < m → Kp [S] H H' → Drw K H' S L → Q (.int v) H'
theorem emod_in {a m : Int} (h : 0 < m) : 0 ≤ a % m ∧ a % m < m := ⟨Int.emod_nonneg a (by omega), Int.emod_lt_of_pos a h⟩
theorem ok_law_draw (T : Txt K mg) : FnR P w K mg base (L2.CX P w) 1 T.a__law_draw (spDraw K) := by
  refine fn_mkR T.F__law_draw sc__law_draw T.b__law_draw (fun vs H Q E h => ?_) fun cdv A outer s H vs Q E hr h => ?_
  · obtain ⟨S, L, m, rfl, _⟩ := h
    rfl
  · obtain ⟨S, L, m, rfl, hm, hm2, ⟨⟨ns, hL⟩, hne, c, p, d, hS, hc, hp, hd, hd2⟩, q⟩ := h
    have hmd : CDivW 0 m := wide_div hm (b := 51) (by omega) (by decide) (by decide)
    have hdiv : ∀ x : Int, CDivW x m := fun x => hmd
    have lenL : ∀ {H1 : Hp} {c p d : Int}, H1 S = some (.lst [.ref L, .int c, .int p, .int d]) → SqL K H1 S [.ref L, .int c, .int p, .int d] := fun h => sqL_of h
    -- what goes on once a number is at hand
    have fin : ∀ (H1 : Hp) (c1 p1 : Int), H1 S = some (.lst [.ref L, .int c1, .int p1, .int d]) → Kp [S] H H1 → 0 ≤ c1 → 0 ≤ p1 → ∀ v : Int, 0 ≤ v → v < m → Q (.int v) (upd H1 S (.lst [.ref L, .int (c1 / m), .int p1, .int d])) := fun H1 c1 p1 h1 k1 h2 h3 v hv hv2 => by
      have k2 : Kp [S] H1 (upd H1 S (.lst [.ref L, .int (c1 / m), .int p1, .int d])) := Kp.put (by simp) h1 (by intro _ z; cases z)
      exact q _ v hv hv2 (k1.trans k2) ⟨⟨ns, (k1.trans k2).seqL hL (by simpa using hne)⟩, hne, _, _, _, upd_same, Int.ediv_nonneg h2 (by omega), h3, hd, hd2⟩
    refine ⟨_, (pss_cons (ps_if (PW.pt (pw_and (pt_cmpR op_eq (pe_ix ix_list (pv 0) pe_int (fun _ _ => rfl)) pe_int (nomark _)) (pw_and1 (pt_cmpR op_ge (pe_ix ix_list (pv 0) pe_int (fun _ _ => rfl)) (pe_callB call_len_seq (by rfl) T.m_len (by decide +kernel) (pa_cons (pe_ix ix_list (pv 0) pe_int (fun _ _ => rfl)) pa_nil)) (nomark _)))))
      (pss_cons (ps_asg (pe_op op_mod (pe_callTy call_int1 (by rfl) T.m_int (by decide +kernel) (pa_cons (pe_op op_add (pe_op op_mul (pe_ix ix_list (pv 0) pe_int (fun _ _ => rfl)) pe_int) pe_int) pa_nil)) pe_int) (pg_sub (pv 0) pe_int set_list))
      (pss_one (ps_ret (pe_op op_mod (pe_callTy call_int1 (by rfl) T.m_int (by decide +kernel) (pa_cons (pe_op op_fdiv (pe_ix ix_list (pv 0) pe_int (fun _ _ => rfl)) pe_int) pa_nil)) (pv 1)))))
      pss_nil)
      (pss_cons (ps_if (pt_cmpR op_eq (pe_ix ix_list (pv 0) pe_int (fun _ _ => rfl)) pe_int (nomark _))
      (pss_cons (ps_asg (pe_callB call_abs (by rfl) T.m_abs (by decide +kernel) (pa_cons (pe_ix ix_list (pe_ix ix_list (pv 0) pe_int (fun _ _ => rfl)) (pe_ix ix_list (pv 0) pe_int (fun _ _ => rfl)) (fun _ _ => rfl)) pa_nil)) (pg_sub (pv 0) pe_int set_list))
      (pss_one (ps_asg (pe_op op_add (pe_ix ix_list (pv 0) pe_int (fun _ _ => rfl)) pe_int) (pg_sub (pv 0) pe_int set_list))))
      pss_nil)
      (pss_cons (ps_set (i := 2) sc__law_draw.nd rfl (Or.inl rfl) (pe_op op_mod (pe_callTy call_int1 (by rfl) T.m_int (by decide +kernel) (pa_cons (pe_ix ix_list (pv 0) pe_int (fun _ _ => rfl)) pa_nil)) (pv 1)))
      (pss_cons (ps_asg (pe_op op_fdivW (pe_ix ix_list (pv 0) pe_int (fun _ _ => rfl)) (pv 1)) (pg_sub (pv 0) pe_int set_list))
      (pss_one (ps_ret (pv 2))))))), ?_⟩
    -- value = int(state[1]) % many; state[1] = state[1] // many; return value
    have rest : ∀ (H1 : Hp) (c1 p1 : Int) (y : Option V), H1 S = some (.lst [.ref L, .int c1, .int p1, .int d]) → Kp [S] H H1 → 0 ≤ c1 → 0 ≤ p1 →
        tSeq (tAsg (tOp (rI (fun _ j => 0 < j) fun i j => .int (i % j)) (tCB (fun xs H Q => (∃ i, xs = [.int i] ∧ Q (.int i) H) ∨ ∃ k, xs = [.bl k] ∧ Q (.int (if k then 1 else 0)) H) (tCons (tOp (rIxL K) (tVar 0) (tC (.int 1))) tNil)) (tVar 1)) (gName 2))
          (tSeq (tAsg (tOp (rI CDivW fun i j => .int (i / j)) (tOp (rIxL K) (tVar 0) (tC (.int 1))) (tVar 1)) (gSub (tVar 0) (tC (.int 1)) rSetL)) (tRet (tVar 2))) { nx := fun _ H' => Q .non H', rt := Q } [some (.ref S), some (.int m), y] H1 := fun H1 c1 p1 y h1 k1 h2 h3 => by
      have s1 := lenL h1
      have e := emod_in (a := c1) hm
      refine ⟨.ref S, rfl, S, _, 1, .int c1, rfl, rfl, s1, atI_nat (j := 1) rfl, .inl ⟨c1, rfl, _, rfl, _, _, rfl, rfl, hm, ?_⟩⟩
      refine ⟨.ref S, rfl, S, _, 1, .int c1, rfl, rfl, s1, atI_nat (j := 1) rfl, _, rfl, _, _, rfl, rfl, hdiv _, ?_⟩
      refine ⟨.ref S, rfl, S, _, 1, 1, rfl, rfl, h1, rfl, ?_⟩
      refine ⟨_, rfl, ?_⟩
      exact fin H1 c1 p1 h1 k1 h2 h3 _ e.1 e.2
    have s1 := lenL hS
    -- state[1] == 0 and state[2] >= len(state[0])
    refine ⟨.ref S, rfl, S, _, 1, .int c, rfl, rfl, s1, atI_nat (j := 1) rfl, rfl, _, rfl, ?_⟩
    by_cases hc0 : c = 0
    · subst hc0
      refine iteT ?_
      refine ⟨.ref S, rfl, S, _, 2, .int p, rfl, rfl, s1, atI_nat (j := 2) rfl, .ref S, rfl, S, _, 0, .ref L, rfl, rfl, s1, atI_nat (j := 0) rfl, L, _, rfl, .inl hL, _, _, rfl, rfl, _, rfl, ite2 (fun cc => ?_) (fun cc => ?_)⟩
      · -- the script is used up
        have e := emod_in (a := d * 48271 + 69621) (m := 2147483629) (by decide)
        refine ⟨.ref S, rfl, S, _, 3, .int d, rfl, rfl, s1, atI_nat (j := 3) rfl, _, _, rfl, rfl, .inr ⟨by decide, by decide⟩, _, _, rfl, rfl, .inl ⟨_, rfl, _, _, rfl, rfl, (by show (0 : Int) < 2147483629; decide), ?_⟩⟩
        refine ⟨.ref S, rfl, S, _, 3, 3, rfl, rfl, hS, rfl, ?_⟩
        have k2 : Kp [S] H (upd H S (.lst [.ref L, .int 0, .int p, .int ((d * 48271 + 69621) % 2147483629)])) := Kp.put (by simp) hS (by intro _ z; cases z)
        have e2 := emod_in (a := (d * 48271 + 69621) % 2147483629 / 13) hm
        refine ⟨.ref S, rfl, S, _, 3, .int ((d * 48271 + 69621) % 2147483629), rfl, rfl, sqL_of upd_same, atI_nat (j := 3) rfl, _, _, rfl, rfl, ⟨by decide, by decide⟩, .inl ⟨_, rfl, _, rfl, _, _, rfl, rfl, hm, ?_⟩⟩
        exact q _ _ e2.1 e2.2 k2 ⟨⟨ns, k2.seqL hL (by simpa using hne)⟩, hne, _, _, _, upd_same, by decide, hp, e.1, by omega⟩
      · have cc' : p < ((ns.map V.int).length : Int) := by
          have z : ¬ ((ns.map V.int).length : Int) ≤ p := fun z => cc (decide_eq_true z)
          omega
        rw [List.length_map] at cc'
        obtain ⟨j, rfl⟩ := Int.eq_ofNat_of_zero_le hp
        have hj : j < ns.length := by omega
        refine ⟨.ref S, rfl, S, _, 1, .int 0, rfl, rfl, s1, atI_nat (j := 1) rfl, rfl, _, rfl, iteT ?_⟩
        refine ⟨.ref S, rfl, S, _, 0, .ref L, rfl, rfl, s1, atI_nat (j := 0) rfl, .ref S, rfl, S, _, 2, .int (j : Nat), rfl, rfl, s1, atI_nat (j := 2) rfl, L, _, _, _, rfl, rfl, hL, atI_nat (j := j) (ints_get hj), _, rfl, ?_⟩
        refine ⟨.ref S, rfl, S, _, 1, 1, rfl, rfl, hS, rfl, ?_⟩
        have k2 : Kp [S] H (upd H S (.lst [.ref L, .int (if ns[j] < 0 then -ns[j] else ns[j]), .int (j : Nat), .int d])) := Kp.put (by simp) hS (by intro _ z; cases z)
        refine ⟨.ref S, rfl, S, _, 2, .int (j : Nat), rfl, rfl, sqL_of upd_same, atI_nat (j := 2) rfl, _, _, rfl, rfl, ?_⟩
        refine ⟨.ref S, rfl, S, _, 2, 2, rfl, rfl, upd_same, rfl, ?_⟩
        rw [upd_upd]
        have k3 : Kp [S] H (upd H S (.lst [.ref L, .int (if ns[j] < 0 then -ns[j] else ns[j]), .int ((j : Nat) + 1), .int d])) := Kp.put (by simp) hS (by intro _ z; cases z)
        exact rest _ _ _ none upd_same k3 (by split <;> omega) (by omega)
    · have e : decide (V.int c = V.int 0) = false := decide_eq_false fun z => hc0 (V.int.inj z)
      rw [e]
      refine iteF (iteF ?_)
      refine ⟨.ref S, rfl, S, _, 1, .int c, rfl, rfl, s1, atI_nat (j := 1) rfl, rfl, _, rfl, ?_⟩
      rw [e]
      refine iteF ?_
      exact rest H c p none hS (Kp.refl _ _) hc hp
end
end SK
namespace SK
open PySem PySem.Spec PyProof.Rows L2 GxR SM
section
variable {P : Program} {w : World} {K : PySem.W.Frag} {mg : Str → Option Value} {base : Heap}
def spStart (K : PySem.W.Frag) : Sp := fun vs H Q _ => ∃ (a : Addr) (ns : List Int), vs = [.ref a] ∧ SqL K H a (ns.map V.int) ∧ ns.length ≤ 63 ∧ ∀ H' S L, Kp [] H H' → H S = none → Drw K H' S L → Q (.ref S) H'
theorem ok_law_start (T : Txt K mg) : FnR P w K mg base (L2.CX P w) 1 T.a__law_start (spStart K) := by
  refine fn_mkR T.F__law_start sc__law_start T.b__law_start (fun vs H Q E h => ?_) fun cdv A outer s H vs Q E hr h => ?_
  · obtain ⟨a, ns, rfl, _⟩ := h
    rfl
  · obtain ⟨a, ns, rfl, hs, hz, q⟩ := h
    refine ⟨_, (pss_cons (ps_set (i := 1) sc__law_start.nd rfl (Or.inl rfl) pe_int)
      (pss_cons (ps_for (passes_of rfl) rfl (pi_list (pv 0)) (pg_name (i := 2) sc__law_start.nd rfl (Or.inl rfl))
      (pss_one (ps_set (i := 1) sc__law_start.nd rfl (Or.inl rfl) (pe_op op_add (pe_op op_mod (pe_callTy call_int1 (by rfl) T.m_int (by decide +kernel) (pa_cons (pe_op op_add (pe_op op_mul (pv 1) pe_int) (pv 2)) pa_nil)) pe_int) pe_int))))
      (pss_one (ps_ret (pe_lst (pa_cons (pe_callTy call_list_of (by rfl) T.m_list (by decide +kernel) (pa_cons (pv 0) pa_nil)) (pa_cons pe_int (pa_cons pe_int (pa_cons (pv 1) pa_nil))))))))), ?_⟩
    refine ⟨_, rfl, a, rfl, ⟨_, hs⟩, for_it (walk_list (K := K) (a := a) (xs := ns.map V.int)) (fun i σ H' => (∃ (d : Int) (y : Option V), σ = [some (.ref a), some (.int d), y] ∧ 0 ≤ d ∧ d < 2 ^ 40) ∧ H' = H) ⟨⟨7, none, rfl, by decide, by decide⟩, rfl⟩ (fun i σ H' _ hv => by rw [hv.2]; exact hs) ?_ ?_⟩
    · rintro i x σ H' H2 hi ⟨⟨d, y, rfl, h0, h1⟩, rfl⟩ ⟨rfl, hx⟩
      rw [List.length_map] at hi
      rw [ints_get hi] at hx
      cases hx
      have e := emod_in (a := d * 48271 + ns[i]) (m := 2147483629) (by decide)
      refine ⟨_, rfl, _, _, rfl, rfl, .inr ⟨by decide, by decide⟩, _, rfl, _, _, rfl, rfl, .inl ⟨_, rfl, _, _, rfl, rfl, (by show (0 : Int) < 2147483629; decide), _, _, rfl, rfl, ?_⟩⟩
      exact ⟨⟨_, _, rfl, by omega, by omega⟩, rfl⟩
    · rintro σ H' ⟨⟨d, y, rfl, h0, h1⟩, rfl⟩
      refine ⟨_, rfl, a, _, rfl, .inl hs, fun l hl => ?_⟩
      refine ⟨_, rfl, (by show 4 ≤ sizeLine; decide), fun S hS => ?_⟩
      have k1 : Kp [] H' (upd H' l (.lst (ns.map V.int))) := Kp.new hl
      have k2 : Kp [] (upd H' l (.lst (ns.map V.int))) (upd (upd H' l (.lst (ns.map V.int))) S (.lst [.ref l, .int 0, .int 0, .int d])) := Kp.new hS
      have ne : l ≠ S := ne_of_none upd_same hS
      exact q _ S l (k1.trans k2) (k1.free S hS) ⟨⟨ns, k2.seqL (sqL_of upd_same)⟩, ne, 0, 0, d, upd_same, by decide, by decide, h0, h1⟩
/-- _law_octets(number, size) -/
def spLOct (K : PySem.W.Frag) : Sp := fun vs H Q _ => ∃ n z : Int, vs = [.int n, .int z] ∧ 0 ≤ n ∧ 0 ≤ z ∧ z ≤ 4096 ∧ ∀ H' v, Kp [] H H' → Oct K H' v (leO n.toNat z.toNat) → Q v H'
theorem ok_law_octets (T : Txt K mg) : FnR P w K mg base (L2.CX P w) 1 T.a__law_octets (spLOct K) := by
  refine fn_mkR T.F__law_octets sc__law_octets T.b__law_octets (fun vs H Q E h => ?_) fun cdv A outer s H vs Q E hr h => ?_
  · obtain ⟨n, z, rfl, _⟩ := h
    rfl
  · obtain ⟨n, z, rfl, hn, hz0, hz, q⟩ := h
    obtain ⟨m, rfl⟩ := Int.eq_ofNat_of_zero_le hn
    rw [Int.toNat_natCast] at q
    refine ⟨_, (pss_cons (ps_set (i := 2) sc__law_octets.nd rfl (Or.inl rfl) (pe_lst pa_nil))
      (pss_cons (ps_for (passes_of rfl) rfl (pi_range1 (by rfl) T.m_range (pa_cons (pv 1) pa_nil)) (pg_name (i := 3) sc__law_octets.nd rfl (Or.inl rfl))
      (pss_cons (ps_expr (pe_bm PySem.F.plainAttrs_list PySem.F.slot_list_append PySem.F.type_list_append mt_append (pv 2) (pa_cons (pe_op op_mod (pe_callTy call_int1 (by rfl) T.m_int (by decide +kernel) (pa_cons (pv 0) pa_nil)) pe_int) pa_nil)))
      (pss_one (ps_set (i := 0) sc__law_octets.nd rfl (Or.inl rfl) (pe_op op_fdiv (pv 0) pe_int)))))
      (pss_one (ps_ret (pe_callTy call_tuple_of (by rfl) T.m_tuple (by decide +kernel) (pa_cons (pv 2) pa_nil)))))), ?_⟩
    refine ⟨Nat.zero_le _, fun D hD => ?_⟩
    refine ⟨_, rfl, z, rfl, by omega, by omega, for_it walk_range (fun i σ H' => (∃ y, σ = [some (.int (m / 2 ^ (8 * i) : Nat)), some (.int z), some (.ref D), y]) ∧ Kp [] H H' ∧ H' D = some (.lst (octV (leO m i)))) ⟨⟨none, by simp; rfl⟩, Kp.new hD, upd_same⟩ (fun _ _ _ _ _ => True.intro) ?_ ?_⟩
    · rintro i x σ H1 H2 hi ⟨⟨y, rfl⟩, k1, hl⟩ ⟨rfl, rfl⟩
      refine ⟨.ref D, rfl, .inl ⟨rfl, _, .inl (.inl hl)⟩, _, rfl, .inl ⟨_, rfl, _, _, rfl, rfl, (by show (0 : Int) < 256; decide), D, _, _, rfl, rfl, hl, ?_, ?_⟩⟩
      · rw [List.length_map]; unfold leO; rw [List.length_map, List.length_range]
        exact Nat.lt_of_lt_of_le (show i < 4097 by omega) (by decide)
      · refine ⟨_, rfl, _, _, rfl, rfl, ⟨by decide, by decide⟩, ⟨some (.int (0 + (i : Nat))), ?_⟩, k1.upd hD, ?_⟩
        · have e : ((m / 2 ^ (8 * i) : Nat) : Int) / 256 = ((m / 2 ^ (8 * (i + 1)) : Nat) : Int) := by
            have e2 : m / 2 ^ (8 * (i + 1)) = m / 2 ^ (8 * i) / 256 := by
              rw [Nat.div_div_eq_div_mul, show 8 * (i + 1) = 8 * i + 8 by omega, Nat.pow_add]
            rw [e2]
            omega
          rw [← e]
          rfl
        · rw [upd_same, leO_succ, octV_snoc]
          have e : ((m / 2 ^ (8 * i) : Nat) : Int) % 256 = ((m / 2 ^ (8 * i) % 256 : Nat) : Int) := by omega
          rw [← e]
    · rintro σ H1 ⟨⟨y, rfl⟩, k1, hl⟩
      refine ⟨_, rfl, D, _, rfl, .inl ⟨sqL_of hl, fun p hp => ?_⟩⟩
      exact q _ _ (k1.trans (Kp.new hp)) ⟨p, rfl, sqT_of upd_same, leO_lt⟩
end
end SK
namespace SK
open PySem PySem.Spec PyProof.Rows L2 GxR SM
section
variable {P : Program} {w : World} {K : PySem.W.Frag} {mg : Str → Option Value} {base : Heap}
/-- what is told of a number and a size: the octets, or the word -/
def rSz (K : PySem.W.Frag) (ok : Prop) (ns : List Nat) : Hp → VK → Prop := fun H Q => (¬ ok → ∀ H', Kp [] H H' → Q (.str "length") H') ∧ (ok → ∀ H' v, Kp [] H H' → Oct K H' v ns → Q v H')
def spSized (K : PySem.W.Frag) : Sp := fun vs H Q _ => ∃ f n z : Int, vs = [.int f, .int n, .int z] ∧ z ≤ 4096 ∧ rSz K (Fits n z) (if f = 0 then (leO n.toNat z.toNat).reverse else leO n.toNat z.toNat) H Q
theorem lenE (T : Txt K mg) : PySem.W.exmOne K (.ref T.a_LengthError) (.ref T.a_SaltmillError) = some true := PySem.W.exm_ref T.bP_SaltmillError T.hd_SaltmillError T.tP_SaltmillError T.sub_LengthError_SaltmillError
theorem len_ne (T : Txt K mg) : T.a_LengthError ≠ T.a_OctetError := fun e => by
  have h1 := T.sub_LengthError_OctetError
  have h2 := T.sub_OctetError_OctetError
  rw [e, h2] at h1
  cases h1
theorem ok_law_sized (T : Txt K mg) (G_big : FnR P w K mg base (L2.CX P w) 7 T.a_big (spBig K T.a_LengthError)) (G_little : FnR P w K mg base (L2.CX P w) 6 T.a_little (spLittle K T.a_LengthError)) :
    FnR P w K mg base (L2.CX P w) 9 T.a__law_sized (spSized K) := by
  refine fn_mkR T.F__law_sized sc__law_sized T.b__law_sized (fun vs H Q E h => ?_) fun cdv A outer s H vs Q E hr h => ?_
  · obtain ⟨f, n, z, rfl, _⟩ := h
    rfl
  · obtain ⟨f, n, z, rfl, hz, q1, q2⟩ := h
    refine ⟨_, (pss_one (ps_try_as (i := 3) (ts := (fun a cls d => fun D σ H => (cls = .ref T.a_LengthError ∧ d = none) ∧ tRet (tIf (tAnd (tB (tCB (rIsE K T.a_LengthError a) (tCons (tVar 3) (tCons (tC (.ref T.a_LengthError)) tNil)))) (tNot (tB (tCB (rIsE K T.a_LengthError a) (tCons (tVar 3) (tCons (tC (.ref T.a_OctetError)) tNil)))))) (tC (.str "length")) (tC (.str "other"))) D σ H)) rfl rfl sc__law_sized.nd rfl rfl ⟨rfl, by decide, .inl T.g_SaltmillError⟩ (takes_of rfl rfl rfl rfl)
      (fun W pn xe tk own_ => (pss_cons (ps_if (pt_cmpR op_eq (pv 0) pe_int (nomark _))
      (pss_one (ps_ret (SM.pe_callR G_big (hr.mono (by decide)) (by rfl) T.g_big T.F_big.kp (fun σ => passAt tk σ) (pa_cons (pv 1) (pa_cons (pv 2) pa_nil)))))
      pss_nil)
      (pss_one (ps_ret (SM.pe_callR G_little (hr.mono (by decide)) (by rfl) T.g_little T.F_little.kp (fun σ => passAt tk σ) (pa_cons (pv 1) (pa_cons (pv 2) pa_nil)))))))
      (fun a oe cls d pn hz hf => (SM.pss_when (p := cls = .ref T.a_LengthError ∧ d = none) (fun hcd => by obtain ⟨rfl, rfl⟩ := hcd; exact pss_one (ps_ret (pe_ifExp (PW.pt (pw_and (pt_val (pe_callB (call_isE T.X_LengthError hz hf) (by rfl) T.m_isinstance (by decide +kernel) (pa_cons (pv 3) (pa_cons (pe_glob rfl T.g_LengthError rfl) pa_nil)))) (pw_and1 (pt_not (pt_val (pe_callB (call_isE T.X_LengthError hz hf) (by rfl) T.m_isinstance (by decide +kernel) (pa_cons (pv 3) (pa_cons (pe_glob rfl T.g_OctetError rfl) pa_nil)))))))) pe_str pe_str))))))), ?_⟩
    have bad : ¬ Fits n z → ∀ (σ : L2.St) (H' : Hp), σ.length = 4 → Kp [] H H' → wAs K (.ref T.a_SaltmillError) 3 (fun a cls d => fun D σ H => (cls = .ref T.a_LengthError ∧ d = none) ∧ tRet (tIf (tAnd (tB (tCB (rIsE K T.a_LengthError a) (tCons (tVar 3) (tCons (tC (.ref T.a_LengthError)) tNil)))) (tNot (tB (tCB (rIsE K T.a_LengthError a) (tCons (tVar 3) (tCons (tC (.ref T.a_OctetError)) tNil)))))) (tC (.str "length")) (tC (.str "other"))) D σ H) (fun cls d _ H => E cls d H) { nx := fun _ H' => Q .non H', rt := Q } (.ref T.a_LengthError) none σ H' := fun nf σ H' hl k => by
      refine ⟨true, lenE T, fun _ a ha => ⟨⟨rfl, rfl⟩, ?_⟩, fun z => by cases z⟩
      have hs3 : (σ.set 3 (some (.ref a)))[3]? = some (some (.ref a)) := List.getElem?_set_self (by omega)
      refine ⟨_, hs3, .ref T.a_LengthError, .ref T.a_LengthError, true, rfl, fun u h => h, kit_own T.hd_LengthError T.tP_LengthError T.sub_LengthError_LengthError (fun _ => rfl), true, rfl, iteT ?_⟩
      refine ⟨_, hs3, .ref T.a_OctetError, .ref T.a_OctetError, false, rfl, fun u h => h, kit_own T.hd_OctetError T.tP_OctetError T.sub_LengthError_OctetError (fun e => absurd e (len_ne T)), false, rfl, ?_⟩
      exact q1 nf H' k
    refine ⟨_, rfl, rfl, _, rfl, ite2 (fun c => ?_) (fun c => ?_)⟩
    · have e : f = 0 := V.int.inj (of_decide_eq_true c)
      rw [if_pos e] at q2
      exact ⟨_, rfl, _, rfl, n, z, rfl, hz, fun nf H' k => bad nf _ H' rfl k, q2⟩
    · have e : ¬ f = 0 := fun e => c (by rw [e]; simp)
      rw [if_neg e] at q2
      exact ⟨_, rfl, _, rfl, n, z, rfl, hz, fun nf H' k => bad nf _ H' rfl k, q2⟩
/-- _law_xored -/
def spXored (K : PySem.W.Frag) (P : Addr) : Sp := fun vs H Q _ => ∃ v u ns ms, vs = [v, u] ∧ TabG H P ∧ Oct K H v ns ∧ Oct K H u ms ∧ ns.length ≤ 4096 ∧ ms.length ≤ 4096 ∧ rSz K (ns.length = ms.length) (xorO ns ms) H Q
theorem ok_law_xored (T : Txt K mg) (G_xor : FnR P w K mg base (L2.CX P w) 8 T.a_xor (sp2 K T.P_is_octets T.a_OctetError T.a_LengthError (rXor K T.a_LengthError))) :
    FnR P w K mg base (L2.CX P w) 10 T.a__law_xored (spXored K T.P_is_octets) := by
  refine fn_mkR T.F__law_xored sc__law_xored T.b__law_xored (fun vs H Q E h => ?_) fun cdv A outer s H vs Q E hr h => ?_
  · obtain ⟨v, u, ns, ms, rfl, _⟩ := h
    rfl
  · obtain ⟨v, u, ns, ms, rfl, hP, h1, h2, l1, l2, q1, q2⟩ := h
    refine ⟨_, (pss_one (ps_try_as (i := 2) (ts := (fun a cls d => fun D σ H => (cls = .ref T.a_LengthError ∧ d = none) ∧ tRet (tIf (tB (tCB (rIsE K T.a_LengthError a) (tCons (tVar 2) (tCons (tC (.ref T.a_LengthError)) tNil)))) (tC (.str "length")) (tC (.str "other"))) D σ H)) rfl rfl sc__law_xored.nd rfl rfl ⟨rfl, by decide, .inl T.g_SaltmillError⟩ (takes_of rfl rfl rfl rfl)
      (fun W pn xe tk own_ => (pss_one (ps_ret (SM.pe_callR G_xor (hr.mono (by decide)) (by rfl) T.g_xor T.F_xor.kp (fun σ => passAt tk σ) (pa_cons (pv 0) (pa_cons (pv 1) pa_nil))))))
      (fun a oe cls d pn hz hf => (SM.pss_when (p := cls = .ref T.a_LengthError ∧ d = none) (fun hcd => by obtain ⟨rfl, rfl⟩ := hcd; exact pss_one (ps_ret (pe_ifExp (pt_val (pe_callB (call_isE T.X_LengthError hz hf) (by rfl) T.m_isinstance (by decide +kernel) (pa_cons (pv 2) (pa_cons (pe_glob rfl T.g_LengthError rfl) pa_nil)))) pe_str pe_str))))))), ?_⟩
    refine ⟨_, rfl, _, rfl, v, u, rfl, hP, .inr ⟨ns, ms, h1, h2, fun z => by omega, fun _ _ => ⟨fun nf H' k => ?_, q2⟩⟩⟩
    refine ⟨true, lenE T, fun _ a ha => ⟨⟨rfl, rfl⟩, ?_⟩, fun z => by cases z⟩
    refine ⟨_, rfl, .ref T.a_LengthError, .ref T.a_LengthError, true, rfl, fun u h => h, kit_own T.hd_LengthError T.tP_LengthError T.sub_LengthError_LengthError (fun _ => rfl), true, rfl, ?_⟩
    exact q1 nf H' k
end
end SK
namespace SK
open PySem PySem.Spec PyProof.Rows L2 GxR SM
section
variable {P : Program} {w : World} {K : PySem.W.Frag} {mg : Str → Option Value} {base : Heap}
theorem octE (T : Txt K mg) : PySem.W.exmOne K (.ref T.a_OctetError) (.ref T.a_OctetError) = some true := PySem.W.exm_ref T.bP_OctetError T.hd_OctetError T.tP_OctetError T.sub_OctetError_OctetError
/-- _law_refused(value, good) -/
def spRefused (K : PySem.W.Frag) (P : Addr) : Sp := fun vs H Q _ => ∃ v u ns, vs = [v, u] ∧ TabG H P ∧ OArg K H v false ∧ Oct K H u ns ∧ ∀ H', Kp [] H H' → Q (.bl true) H'
theorem ok_law_refused (T : Txt K mg) (G_from_big : FnR P w K mg base (L2.CX P w) 8 T.a_from_big (sp1 K T.P_is_octets T.a_OctetError T.a_LengthError (rInt fun ns => (valB ns : Nat))))
    (G_from_little : FnR P w K mg base (L2.CX P w) 9 T.a_from_little (sp1 K T.P_is_octets T.a_OctetError T.a_LengthError (rInt fun ns => (valB ns.reverse : Nat))))
    (G_to_hex : FnR P w K mg base (L2.CX P w) 8 T.a_to_hex (spBad K T.P_is_octets T.a_OctetError)) (G_to_base64 : FnR P w K mg base (L2.CX P w) 8 T.a_to_base64 (spBad K T.P_is_octets T.a_OctetError))
    (G_xor : FnR P w K mg base (L2.CX P w) 8 T.a_xor (sp2 K T.P_is_octets T.a_OctetError T.a_LengthError (rXor K T.a_LengthError)))
    (G_same_octets : FnR P w K mg base (L2.CX P w) 8 T.a_same_octets (sp2 K T.P_is_octets T.a_OctetError T.a_LengthError rSame)) :
    FnR P w K mg base (L2.CX P w) 12 T.a__law_refused (spRefused K T.P_is_octets) := by
  refine fn_mkR T.F__law_refused sc__law_refused T.b__law_refused (fun vs H Q E h => ?_) fun cdv A outer s H vs Q E hr h => ?_
  · obtain ⟨v, u, ns, rfl, _⟩ := h
    rfl
  · obtain ⟨v, u, ns, rfl, hP, hb, hg, q⟩ := h
    refine ⟨_, (pss_cons (ps_set (i := 2) sc__law_refused.nd rfl (Or.inl rfl) pe_int)
      (pss_cons (ps_for (passes_of rfl) rfl (pi_range1 (by rfl) T.m_range (pa_cons pe_int pa_nil)) (pg_name (i := 3) sc__law_refused.nd rfl (Or.inl rfl))
      (pss_one (ps_tryO rfl rfl ⟨rfl, by decide, .inl T.g_OctetError⟩ (takes_of rfl rfl rfl rfl)
      (fun W pn xe tk own_ => (pss_one (ps_if (pt_cmpR op_eq (pv 3) pe_int (nomark _))
      (pss_one (ps_expr (SM.pe_callR G_from_big (hr.mono (by decide)) (by rfl) T.g_from_big T.F_from_big.kp (fun σ => passAt tk σ) (pa_cons (pv 0) pa_nil))))
      (pss_one (ps_if (pt_cmpR op_eq (pv 3) pe_int (nomark _))
      (pss_one (ps_expr (SM.pe_callR G_from_little (hr.mono (by decide)) (by rfl) T.g_from_little T.F_from_little.kp (fun σ => passAt tk σ) (pa_cons (pv 0) pa_nil))))
      (pss_one (ps_if (pt_cmpR op_eq (pv 3) pe_int (nomark _))
      (pss_one (ps_expr (SM.pe_callR G_to_hex (hr.mono (by decide)) (by rfl) T.g_to_hex T.F_to_hex.kp (fun σ => passAt tk σ) (pa_cons (pv 0) pa_nil))))
      (pss_one (ps_if (pt_cmpR op_eq (pv 3) pe_int (nomark _))
      (pss_one (ps_expr (SM.pe_callR G_to_base64 (hr.mono (by decide)) (by rfl) T.g_to_base64 T.F_to_base64.kp (fun σ => passAt tk σ) (pa_cons (pv 0) pa_nil))))
      (pss_one (ps_if (pt_cmpR op_eq (pv 3) pe_int (nomark _))
      (pss_one (ps_expr (SM.pe_callR G_xor (hr.mono (by decide)) (by rfl) T.g_xor T.F_xor.kp (fun σ => passAt tk σ) (pa_cons (pv 0) (pa_cons (pv 1) pa_nil)))))
      (pss_one (ps_if (pt_cmpR op_eq (pv 3) pe_int (nomark _))
      (pss_one (ps_expr (SM.pe_callR G_same_octets (hr.mono (by decide)) (by rfl) T.g_same_octets T.F_same_octets.kp (fun σ => passAt tk σ) (pa_cons (pv 0) (pa_cons (pv 1) pa_nil)))))
      (pss_one (ps_if (pt_cmpR op_eq (pv 3) pe_int (nomark _))
      (pss_one (ps_expr (SM.pe_callR G_xor (hr.mono (by decide)) (by rfl) T.g_xor T.F_xor.kp (fun σ => passAt tk σ) (pa_cons (pv 1) (pa_cons (pv 0) pa_nil)))))
      (pss_one (ps_expr (SM.pe_callR G_same_octets (hr.mono (by decide)) (by rfl) T.g_same_octets T.F_same_octets.kp (fun σ => passAt tk σ) (pa_cons (pv 1) (pa_cons (pv 0) pa_nil))))))))))))))))))))
      (fun a oe cls d pn hz hf => (pss_one (ps_set (i := 2) sc__law_refused.nd rfl (Or.inl rfl) (pe_op op_add (pv 2) pe_int)))))))
      (pss_one (ps_ret (pe_cmpR op_eq (pv 2) pe_int (nomark _)))))), ?_⟩
    refine ⟨8, rfl, by decide, by decide, for_it walk_range (fun i σ H' => (∃ y, σ = [some v, some u, some (.int (i : Nat)), y]) ∧ Kp [] H H') ?_ (fun _ _ _ _ _ => True.intro) ?_ ?_⟩
    · exact ⟨⟨none, rfl⟩, Kp.refl _ _⟩
    · rintro i x σ H1 H2 hi ⟨⟨y, rfl⟩, k1⟩ ⟨rfl, rfl⟩
      have hP2 := k1.tab _ hP
      have b2 := hb.kp k1
      have g2 := hg.kp k1
      -- the suite: one more
      have fin : ∀ (x : V) (H' : Hp), Kp [] H2 H' → (fun σ H' => (∃ y, σ = [some v, some u, some (.int ((i + 1 : Nat) : Int)), y]) ∧ Kp [] H H') ([some v, some u, some (.int ((i : Nat) + 1)), some x]) H' := fun x H' k => ⟨⟨some x, by push_cast; rfl⟩, k1.trans k⟩
      refine ⟨_, rfl, rfl, _, rfl, ite2 (fun _ => ?_) (fun _ => ?_)⟩
      · refine ⟨_, rfl, v, rfl, hP2, .inl ⟨b2, fun H' k => ⟨true, octE T, fun _ a ha => ?_, fun z => by cases z⟩⟩⟩
        exact ⟨_, rfl, _, _, rfl, rfl, fin _ H' k⟩
      refine ⟨_, rfl, rfl, _, rfl, ite2 (fun _ => ?_) (fun _ => ?_)⟩
      · refine ⟨_, rfl, v, rfl, hP2, .inl ⟨b2, fun H' k => ⟨true, octE T, fun _ a ha => ?_, fun z => by cases z⟩⟩⟩
        exact ⟨_, rfl, _, _, rfl, rfl, fin _ H' k⟩
      refine ⟨_, rfl, rfl, _, rfl, ite2 (fun _ => ?_) (fun _ => ?_)⟩
      · refine ⟨_, rfl, v, rfl, hP2, b2, fun H' k => ⟨true, octE T, fun _ a ha => ?_, fun z => by cases z⟩⟩
        exact ⟨_, rfl, _, _, rfl, rfl, fin _ H' k⟩
      refine ⟨_, rfl, rfl, _, rfl, ite2 (fun _ => ?_) (fun _ => ?_)⟩
      · refine ⟨_, rfl, v, rfl, hP2, b2, fun H' k => ⟨true, octE T, fun _ a ha => ?_, fun z => by cases z⟩⟩
        exact ⟨_, rfl, _, _, rfl, rfl, fin _ H' k⟩
      refine ⟨_, rfl, rfl, _, rfl, ite2 (fun _ => ?_) (fun _ => ?_)⟩
      · refine ⟨_, rfl, _, rfl, v, u, rfl, hP2, .inl ⟨[false, true], .cons b2 (.cons g2.arg .nil), by simp, fun H' k => ⟨true, octE T, fun _ a ha => ?_, fun z => by cases z⟩⟩⟩
        exact ⟨_, rfl, _, _, rfl, rfl, fin _ H' k⟩
      refine ⟨_, rfl, rfl, _, rfl, ite2 (fun _ => ?_) (fun _ => ?_)⟩
      · refine ⟨_, rfl, _, rfl, v, u, rfl, hP2, .inl ⟨[false, true], .cons b2 (.cons g2.arg .nil), by simp, fun H' k => ⟨true, octE T, fun _ a ha => ?_, fun z => by cases z⟩⟩⟩
        exact ⟨_, rfl, _, _, rfl, rfl, fin _ H' k⟩
      refine ⟨_, rfl, rfl, _, rfl, ite2 (fun _ => ?_) (fun _ => ?_)⟩
      · refine ⟨_, rfl, _, rfl, u, v, rfl, hP2, .inl ⟨[true, false], .cons g2.arg (.cons b2 .nil), by simp, fun H' k => ⟨true, octE T, fun _ a ha => ?_, fun z => by cases z⟩⟩⟩
        exact ⟨_, rfl, _, _, rfl, rfl, fin _ H' k⟩
      refine ⟨_, rfl, _, rfl, u, v, rfl, hP2, .inl ⟨[true, false], .cons g2.arg (.cons b2 .nil), by simp, fun H' k => ⟨true, octE T, fun _ a ha => ?_, fun z => by cases z⟩⟩⟩
      exact ⟨_, rfl, _, _, rfl, rfl, fin _ H' k⟩
    · rintro σ H1 ⟨⟨y, rfl⟩, k1⟩
      exact ⟨_, rfl, rfl, q H1 k1⟩
end
theorem valB_cons (d : Nat) (ns : List Nat) : valB (d :: ns) = d * 256 ^ ns.length + valB ns := by
  have key : ∀ (ns : List Nat) (a : Nat), ns.foldl (fun a o => a * 256 + o) a = a * 256 ^ ns.length + valB ns := by
    intro ns
    induction ns with
    | nil => intro a; show a = a * 1 + 0; omega
    | cons m ns ih =>
      intro a
      have e1 := ih (a * 256 + m)
      have e2 := ih m
      have e3 : valB (m :: ns) = ns.foldl (fun a o => a * 256 + o) m := by
        unfold valB
        show ns.foldl _ (0 * 256 + m) = _
        rw [Nat.zero_mul, Nat.zero_add]
      show ns.foldl (fun a o => a * 256 + o) (a * 256 + m) = _
      rw [e1, e3, e2, List.length_cons, Nat.pow_succ, Nat.add_mul, Nat.mul_comm (256 ^ ns.length) 256, ← Nat.mul_assoc]
      omega
  have e : valB (d :: ns) = ns.foldl (fun a o => a * 256 + o) d := by
    unfold valB
    show ns.foldl _ (0 * 256 + d) = _
    rw [Nat.zero_mul, Nat.zero_add]
  rw [e, key]
theorem leO_len (n k : Nat) : (leO n k).length = k := by
  unfold leO
  rw [List.length_map, List.length_range]
theorem valB_leO (n : Nat) : ∀ k, valB (leO n k).reverse = n % 2 ^ (8 * k)
  | 0 => by
    show 0 = n % 1
    omega
  | k + 1 => by
    rw [leO_succ, List.reverse_append, List.reverse_singleton, List.singleton_append, valB_cons, valB_leO n k, List.length_reverse, leO_len]
    have e : 8 * (k + 1) = 8 * k + 8 := by omega
    have e2 : (256 : Nat) ^ k = 2 ^ (8 * k) := by rw [Nat.pow_mul]
    rw [e, Nat.pow_add, Nat.mod_mul, e2]
    rw [show (2 : Nat) ^ 8 = 256 by decide, Nat.mul_comm (2 ^ (8 * k))]
    omega
/-- a number that fits is not cut -/
theorem fits_lt {n z : Int} (h : Fits n z) : n.toNat < 2 ^ (8 * z.toNat) := by
  obtain ⟨h1, h2, h3⟩ := h
  unfold Builtin.Int.intBits at h3
  by_cases e : n = 0
  · subst e
    exact Nat.two_pow_pos _
  · rw [if_neg (show ¬ ((n == 0) = true) by simpa using e)] at h3
    have e2 : n.natAbs = n.toNat := by omega
    rw [e2] at h3
    have h5 : n.toNat ≠ 0 := by omega
    exact (Nat.log2_lt h5).mp (by omega)
theorem fits_iff {n z : Int} (hn : 0 ≤ n) (hz : 0 ≤ z) : Fits n z ↔ n / 2 ^ (8 * z).toNat = 0 := by
  obtain ⟨m, rfl⟩ := Int.eq_ofNat_of_zero_le hn
  obtain ⟨k, rfl⟩ := Int.eq_ofNat_of_zero_le hz
  have e : (8 * (k : Int)).toNat = 8 * k := by omega
  rw [e]
  have e2 : ((m : Int) / 2 ^ (8 * k)) = ((m / 2 ^ (8 * k) : Nat) : Int) := by push_cast; rfl
  rw [e2]
  constructor
  · intro f
    have h := fits_lt f
    rw [Int.toNat_natCast, Int.toNat_natCast] at h
    rw [Nat.div_eq_of_lt h]
    rfl
  · intro h
    have h1 : m / 2 ^ (8 * k) = 0 := by omega
    have h2 : m < 2 ^ (8 * k) := by
      rcases Nat.div_eq_zero_iff.mp h1 with z | z
      · exact absurd z (Nat.ne_of_gt (Nat.two_pow_pos _))
      · exact z
    refine ⟨hz, hn, ?_⟩
    unfold Builtin.Int.intBits
    by_cases e : (m : Int) = 0
    · rw [e]
      show (0 : Int) ≤ _
      omega
    · rw [if_neg (show ¬ (((m : Int) == 0) = true) by simpa using e)]
      have h5 : m ≠ 0 := by omega
      have h6 := (Nat.log2_lt h5).mpr h2
      rw [Int.natAbs_natCast]
      omega
/-- octets as data -/
abbrev octD (ns : List Nat) : PyData := .tuple (ns.map fun n => PyData.int (n : Nat))
theorem Oct.dp {K : PySem.W.Frag} {H : Hp} {v : V} {ns : List Nat} (h : Oct K H v ns) : Dp K H v (octD ns) := by
  obtain ⟨a, rfl, h, h2⟩ := h
  refine .tup h ?_
  clear h h2
  induction ns with
  | nil => exact .nil
  | cons n ns ih => exact .cons (.int _) ih
theorem eqv_oct : ∀ ns ms : List Nat, PyData.eqv (octD ns) (octD ms) = decide (ns = ms) := by
  intro ns ms
  show PyData.eqv (.tuple _) (.tuple _) = _
  rw [PyData.eqv]
  induction ns generalizing ms with
  | nil =>
    cases ms with
    | nil => simp [PyData.eqvAll]
    | cons m ms => simp [PyData.eqvAll]
  | cons n ns ih =>
    cases ms with
    | nil => simp [PyData.eqvAll]
    | cons m ms =>
      rw [List.map_cons, List.map_cons, PyData.eqvAll, ih ms, PyData.eqv]
      by_cases e : n = m
      · subst e
        simp
      · have e2 : ((n : Int) == (m : Int)) = false := beq_eq_false_iff_ne.mpr (by omega)
        rw [e2, Bool.false_and]
        symm
        exact decide_eq_false fun z => e (by cases z; rfl)
theorem shaped_oct (ns : List Nat) : SeqAt.shaped (octD ns) = true := by
  have h := PySem.W.shaped_ints (ns.map fun n : Nat => (n : Int))
  rw [List.map_map] at h
  have h1 : (PyData.canLay0 (.list (ns.map (PyData.int ∘ fun n : Nat => (n : Int)))) && decide (PyData.depth (.list (ns.map (PyData.int ∘ fun n : Nat => (n : Int)))) ≤ 64)) = true := h
  show (PyData.canLay0 (.tuple (ns.map (PyData.int ∘ fun n : Nat => (n : Int)))) && decide (PyData.depth (.tuple (ns.map (PyData.int ∘ fun n : Nat => (n : Int)))) ≤ 64)) = true
  simp only [PyData.canLay0, PyData.depth] at h1 ⊢
  exact h1
end SK
namespace SK
open PySem PySem.Spec PyProof.Rows L2 GxR SM
section
variable {P : Program} {w : World} {K : PySem.W.Frag} {mg : Str → Option Value} {base : Heap}
theorem Drw.cell {H : Hp} {S L : Addr} (h : Drw K H S L) : ∃ ys, H S = some (.lst ys) := by
  obtain ⟨_, _, c, p, d, e, _⟩ := h
  exact ⟨_, e⟩
theorem Oct.kpS {H H' : Hp} {S L : Addr} {v : V} {ns : List Nat} (D : Drw K H S L) (k : Kp [S] H H') (h : Oct K H v ns) : Oct K H' v ns := by
  obtain ⟨a, rfl, h, l⟩ := h
  obtain ⟨ys, e⟩ := D.cell
  exact ⟨a, rfl, k.seqTS e h, l⟩
/-- octets, or the word -/
def Wd (K : PySem.W.Frag) (H : Hp) (v : V) (o : Option (List Nat)) : Prop := (o = none ∧ v = .str "length") ∨ ∃ ns, o = some ns ∧ Oct K H v ns
def wdD (o : Option (List Nat)) : PyData := match o with | none => .str "length" | some ns => octD ns
theorem Wd.dp {H : Hp} {v : V} {o : Option (List Nat)} (h : Wd K H v o) : Dp K H v (wdD o) := by
  rcases h with ⟨rfl, rfl⟩ | ⟨ns, rfl, h⟩
  · exact .str _
  · exact h.dp
theorem Wd.kp {H H' : Hp} {v : V} {o : Option (List Nat)} (k : Kp [] H H') (h : Wd K H v o) : Wd K H' v o := by
  rcases h with ⟨e, rfl⟩ | ⟨ns, e, h⟩
  · exact .inl ⟨e, rfl⟩
  · exact .inr ⟨ns, e, h.kp k⟩
theorem shaped_len : SeqAt.shaped (.str "length") = true := by decide +kernel
theorem shaped_wd (o : Option (List Nat)) : SeqAt.shaped (wdD o) = true := by
  cases o with
  | none => exact shaped_len
  | some ns => exact shaped_oct ns
theorem eqv_wd (o : Option (List Nat)) : PyData.eqv (wdD o) (wdD o) = true := by
  cases o with
  | none => decide +kernel
  | some ns =>
    show PyData.eqv (octD ns) (octD ns) = true
    rw [eqv_oct]
    exact decide_eq_true rfl
theorem eqv_wd_len (o : Option (List Nat)) : PyData.eqv (wdD o) (.str "length") = o.isNone := by
  cases o with
  | none => decide +kernel
  | some ns => simp [wdD, octD, PyData.eqv]
/-- what is due of a number and a size -/
theorem rSz_of {ok : Prop} {ns : List Nat} {o : Option (List Nat)} {H : Hp} {Q : VK} (h0 : ¬ ok → o = none) (h1 : ok → o = some ns) (q : ∀ H' v, Kp [] H H' → Wd K H' v o → Q v H') : rSz K ok ns H Q :=
  ⟨fun n H' k => q H' _ k (.inl ⟨h0 n, rfl⟩), fun y H' v k ho => q H' v k (.inr ⟨ns, h1 y, ho⟩)⟩
theorem qT {Q : VK} {p : Prop} [Decidable p] {H : Hp} (h : p) (q : Q (.bl true) H) : Q (.bl (decide p)) H := by
  rw [decide_eq_true h]
  exact q
/-- _law_numbers(state) -/
def spNumbers (K : PySem.W.Frag) (P : Addr) : Sp := fun vs H Q _ => ∃ S L, vs = [.ref S] ∧ TabG H P ∧ Drw K H S L ∧ ∀ H', Kp [S] H H' → Drw K H' S L → Q (.bl true) H'
theorem ok_law_numbers (T : Txt K mg) (G__law_draw : FnR P w K mg base (L2.CX P w) 1 T.a__law_draw (spDraw K))
    (G__law_octets : FnR P w K mg base (L2.CX P w) 1 T.a__law_octets (spLOct K)) (G__law_sized : FnR P w K mg base (L2.CX P w) 9 T.a__law_sized (spSized K))
    (G_from_big : FnR P w K mg base (L2.CX P w) 8 T.a_from_big (sp1 K T.P_is_octets T.a_OctetError T.a_LengthError (rInt fun ns => (valB ns : Nat))))
    (G_from_little : FnR P w K mg base (L2.CX P w) 9 T.a_from_little (sp1 K T.P_is_octets T.a_OctetError T.a_LengthError (rInt fun ns => (valB ns.reverse : Nat)))) :
    FnR P w K mg base (L2.CX P w) 12 T.a__law_numbers (spNumbers K T.P_is_octets) := by
  refine fn_mkR T.F__law_numbers sc__law_numbers T.b__law_numbers (fun vs H Q E h => ?_) fun cdv A outer s H vs Q E hr h => ?_
  · obtain ⟨S, L, rfl, _⟩ := h
    rfl
  · obtain ⟨S, L, rfl, hP, hD, q⟩ := h
    refine ⟨_, (pss_cons (ps_set (i := 1) sc__law_numbers.nd rfl (Or.inl rfl) (pe_op op_add (pe_op op_mul (SM.pe_callR G__law_draw (hr.mono (by decide)) (by rfl) T.g__law_draw T.F__law_draw.kp (SM.passE rfl rfl rfl rfl) (pa_cons (pv 0) (pa_cons (pe_op op_pow pe_int pe_int) pa_nil))) (pe_op op_pow pe_int pe_int)) (SM.pe_callR G__law_draw (hr.mono (by decide)) (by rfl) T.g__law_draw T.F__law_draw.kp (SM.passE rfl rfl rfl rfl) (pa_cons (pv 0) (pa_cons (pe_op op_pow pe_int pe_int) pa_nil)))))
      (pss_cons (ps_if (pt_cmpR op_gt (SM.pe_callR G__law_draw (hr.mono (by decide)) (by rfl) T.g__law_draw T.F__law_draw.kp (SM.passE rfl rfl rfl rfl) (pa_cons (pv 0) (pa_cons pe_int pa_nil))) pe_int (nomark _))
      (pss_one (ps_set (i := 1) sc__law_numbers.nd rfl (Or.inl rfl) (pe_op op_shr (pv 1) (pe_op op_add (SM.pe_callR G__law_draw (hr.mono (by decide)) (by rfl) T.g__law_draw T.F__law_draw.kp (SM.passE rfl rfl rfl rfl) (pa_cons (pv 0) (pa_cons pe_int pa_nil))) (SM.pe_callR G__law_draw (hr.mono (by decide)) (by rfl) T.g__law_draw T.F__law_draw.kp (SM.passE rfl rfl rfl rfl) (pa_cons (pv 0) (pa_cons pe_int pa_nil)))))))
      pss_nil)
      (pss_cons (ps_if (pt_cmpR op_eq (SM.pe_callR G__law_draw (hr.mono (by decide)) (by rfl) T.g__law_draw T.F__law_draw.kp (SM.passE rfl rfl rfl rfl) (pa_cons (pv 0) (pa_cons pe_int pa_nil))) pe_int (nomark _))
      (pss_one (ps_set (i := 1) sc__law_numbers.nd rfl (Or.inl rfl) (pe_op op_sub pe_int (pv 1))))
      pss_nil)
      (pss_cons (ps_set (i := 2) sc__law_numbers.nd rfl (Or.inl rfl) (pe_op op_sub (SM.pe_callR G__law_draw (hr.mono (by decide)) (by rfl) T.g__law_draw T.F__law_draw.kp (SM.passE rfl rfl rfl rfl) (pa_cons (pv 0) (pa_cons pe_int pa_nil))) pe_int))
      (pss_cons (ps_set (i := 3) sc__law_numbers.nd rfl (Or.inl rfl) pe_str)
      (pss_cons (ps_if (PW.pt (pw_and (pt_cmpR op_ge (pv 1) pe_int (nomark _)) (pw_and (pt_cmpR op_ge (pv 2) pe_int (nomark _)) (pw_and1 (pt_cmpR op_eq (pe_op op_shr (pv 1) (pe_op op_mul pe_int (pv 2))) pe_int (nomark _))))))
      (pss_one (ps_set (i := 3) sc__law_numbers.nd rfl (Or.inl rfl) (SM.pe_callR G__law_octets (hr.mono (by decide)) (by rfl) T.g__law_octets T.F__law_octets.kp (SM.passE rfl rfl rfl rfl) (pa_cons (pv 1) (pa_cons (pv 2) pa_nil)))))
      pss_nil)
      (pss_cons (ps_set (i := 4) sc__law_numbers.nd rfl (Or.inl rfl) (SM.pe_callR G__law_sized (hr.mono (by decide)) (by rfl) T.g__law_sized T.F__law_sized.kp (SM.passE rfl rfl rfl rfl) (pa_cons pe_int (pa_cons (pv 1) (pa_cons (pv 2) pa_nil)))))
      (pss_cons (ps_set (i := 5) sc__law_numbers.nd rfl (Or.inl rfl) (SM.pe_callR G__law_sized (hr.mono (by decide)) (by rfl) T.g__law_sized T.F__law_sized.kp (SM.passE rfl rfl rfl rfl) (pa_cons pe_int (pa_cons (pv 1) (pa_cons (pv 2) pa_nil)))))
      (pss_cons (ps_if (PW.pt (pw_or (pt_cmpR (op_neD hr.units) (pv 4) (pv 3) (nomark _)) (pw_or1 (pt_cmpR (op_neD hr.units) (pv 5) (pe_ifExp (pt_cmpR (op_eqD hr.units) (pv 3) pe_str (nomark _)) (pv 3) (SM.pe_revT (pv 3))) (nomark _)))))
      (pss_one (ps_ret pe_bl))
      pss_nil)
      (pss_cons (ps_if (pt_cmpR (op_eqD hr.units) (pv 3) pe_str (nomark _))
      (pss_one (ps_ret pe_bl))
      pss_nil)
      (pss_one (ps_ret (pe_and (pe_cmpR op_eq (SM.pe_callR G_from_little (hr.mono (by decide)) (by rfl) T.g_from_little T.F_from_little.kp (SM.passE rfl rfl rfl rfl) (pa_cons (pv 4) pa_nil)) (pv 1) (nomark _)) (pe_and (pe_cmpR op_eq (SM.pe_callR G_from_big (hr.mono (by decide)) (by rfl) T.g_from_big T.F_from_big.kp (SM.passE rfl rfl rfl rfl) (pa_cons (pv 5) pa_nil)) (pv 1) (nomark _)) (pe_one (pe_cmpR op_eq (SM.pe_callR G_from_big (hr.mono (by decide)) (by rfl) T.g_from_big T.F_from_big.kp (SM.passE rfl rfl rfl rfl) (pa_cons (pv 4) pa_nil)) (SM.pe_callR G_from_little (hr.mono (by decide)) (by rfl) T.g_from_little T.F_from_little.kp (SM.passE rfl rfl rfl rfl) (pa_cons (pv 5) pa_nil)) (nomark _))))))))))))))))), ?_⟩
    -- number = draw * 2 ** 50 + draw
    refine cutAt (fun σ H' => (∃ n : Int, σ = [some (.ref S), some (.int n), none, none, none, none]) ∧ Kp [S] H H' ∧ Drw K H' S L) (fun N hN => ?_) ?_
    · refine ⟨.ref S, rfl, _, _, rfl, rfl, ⟨by decide, by decide, by decide⟩, S, L, _, rfl, by decide, by decide, hD, fun H1 a a0 a1 k1 D1 => ?_⟩
      refine ⟨_, _, rfl, rfl, ⟨by decide, by decide, by decide⟩, _, _, rfl, rfl, .inr ⟨by decide, by decide⟩, ?_⟩
      refine ⟨.ref S, rfl, _, _, rfl, rfl, ⟨by decide, by decide, by decide⟩, S, L, _, rfl, by decide, by decide, D1, fun H2 b b0 b1 k2 D2 => ?_⟩
      exact ⟨_, _, rfl, rfl, hN _ _ ⟨⟨_, rfl⟩, k1.trans k2, D2⟩⟩
    rintro _ H1 ⟨⟨n1, rfl⟩, k1, D1⟩
    -- if draw > 0: number = number >> draw + draw
    refine cutAt (fun σ H' => (∃ n : Int, σ = [some (.ref S), some (.int n), none, none, none, none]) ∧ Kp [S] H H' ∧ Drw K H' S L) (fun N hN => ?_) ?_
    · refine ⟨.ref S, rfl, S, L, 3, rfl, by decide, by decide, D1, fun H2 a a0 a1 k2 D2 => ⟨_, _, rfl, rfl, _, rfl, ite2 (fun c => ?_) (fun c => ?_)⟩⟩
      · refine ⟨_, rfl, .ref S, rfl, S, L, 60, rfl, by decide, by decide, D2, fun H3 b b0 b1 k3 D3 => ?_⟩
        refine ⟨.ref S, rfl, S, L, 40, rfl, by decide, by decide, D3, fun H4 e e0 e1 k4 D4 => ?_⟩
        exact ⟨_, _, rfl, rfl, _, _, rfl, rfl, by omega, hN _ _ ⟨⟨_, rfl⟩, ((k1.trans k2).trans k3).trans k4, D4⟩⟩
      · exact hN _ _ ⟨⟨_, rfl⟩, k1.trans k2, D2⟩
    clear k1 D1 H1
    rintro _ H1 ⟨⟨n2, rfl⟩, k1, D1⟩
    -- if draw == 4: number = 0 - number
    refine cutAt (fun σ H' => (∃ n : Int, σ = [some (.ref S), some (.int n), none, none, none, none]) ∧ Kp [S] H H' ∧ Drw K H' S L) (fun N hN => ?_) ?_
    · refine ⟨.ref S, rfl, S, L, 5, rfl, by decide, by decide, D1, fun H2 a a0 a1 k2 D2 => ⟨rfl, _, rfl, ite2 (fun c => ?_) (fun c => ?_)⟩⟩
      · exact ⟨_, rfl, _, _, rfl, rfl, hN _ _ ⟨⟨_, rfl⟩, k1.trans k2, D2⟩⟩
      · exact hN _ _ ⟨⟨_, rfl⟩, k1.trans k2, D2⟩
    clear k1 D1 H1
    rintro _ H1 ⟨⟨n, rfl⟩, k1, D1⟩
    -- size = draw - 2
    refine cutAt (fun σ H' => (∃ z : Int, σ = [some (.ref S), some (.int n), some (.int z), none, none, none] ∧ z ≤ 40) ∧ Kp [S] H H' ∧ Drw K H' S L) (fun N hN => ?_) ?_
    · refine ⟨.ref S, rfl, S, L, 43, rfl, by decide, by decide, D1, fun H2 a a0 a1 k2 D2 => ?_⟩
      exact ⟨_, _, rfl, rfl, hN _ _ ⟨⟨_, rfl, by omega⟩, k1.trans k2, D2⟩⟩
    clear k1 D1 H1
    rintro _ H2 ⟨⟨z, rfl, z1⟩, k12, D2⟩
    have z2 : z ≤ 4096 := by omega
    have hP2 := k12.tab _ hP
    -- what is due
    obtain ⟨o, ho0, ho1⟩ : ∃ o : Option (List Nat), (¬ Fits n z → o = none) ∧ (Fits n z → o = some (leO n.toNat z.toNat)) := by
      by_cases f : Fits n z
      · exact ⟨_, fun h => absurd f h, fun _ => rfl⟩
      · exact ⟨none, fun _ => rfl, fun h => absurd h f⟩
    refine cutAt (fun σ H' => σ = [some (.ref S), some (.int n), some (.int z), some (.str "length"), none, none] ∧ H2 = H') (fun N hN => hN _ _ ⟨rfl, rfl⟩) ?_
    rintro _ _ ⟨rfl, rfl⟩
    refine cutAt (fun σ H' => (∃ v, σ = [some (.ref S), some (.int n), some (.int z), some v, none, none] ∧ Wd K H' v o) ∧ Kp [] H2 H') (fun N hN => ?_) ?_
    · have no : ¬ Fits n z → N [some (.ref S), some (.int n), some (.int z), some (.str "length"), none, none] H2 := fun f => hN _ _ ⟨⟨_, rfl, .inl ⟨ho0 f, rfl⟩⟩, Kp.refl _ _⟩
      refine ⟨_, rfl, _, _, rfl, rfl, _, rfl, ite2 (fun c1 => ?_) (fun c1 => no fun f => c1 (by simpa using f.2.1))⟩
      have hn : 0 ≤ n := by simpa using c1
      refine ⟨_, rfl, _, _, rfl, rfl, _, rfl, ite2 (fun c2 => ?_) (fun c2 => no fun f => c2 (by simpa using f.1))⟩
      have hz : 0 ≤ z := by simpa using c2
      refine ⟨_, rfl, _, rfl, _, _, rfl, rfl, .inl ⟨by decide, by decide⟩, _, _, rfl, rfl, by omega, rfl, _, rfl, ite2 (fun c3 => ?_) (fun c3 => no fun f => c3 ?_)⟩
      · have e : n / 2 ^ (8 * z).toNat = 0 := V.int.inj (of_decide_eq_true c3)
        have f := (fits_iff hn hz).mpr e
        exact ⟨_, rfl, _, rfl, n, z, rfl, hn, hz, z2, fun H' v k h => hN _ _ ⟨⟨v, rfl, .inr ⟨_, ho1 f, h⟩⟩, k⟩⟩
      · exact decide_eq_true (congrArg V.int ((fits_iff hn hz).mp f))
    rintro _ H3 ⟨⟨u, rfl, hu⟩, k3⟩
    refine ⟨_, rfl, _, rfl, 1, n, z, rfl, z2, rSz_of ho0 ho1 fun H4 v k4 hv => ?_⟩
    refine ⟨_, rfl, _, rfl, 0, n, z, rfl, z2, rSz_of (o := o.map List.reverse) (fun f => by rw [ho0 f]; rfl) (fun f => by rw [ho1 f]; rfl) fun H5 g k5 hg => ?_⟩
    have hu5 := (hu.kp k4).kp k5
    have hv5 := hv.kp k5
    have kF := (k3.trans k4).trans k5
    -- the end of it, H' on
    have fin : ∀ H', Kp [] H2 H' → Q (.bl true) H' := fun H' k => q H' (k12.trans k.of0) (D2.kp k)
    -- small != due: no
    refine ⟨_, rfl, _, rfl, _, _, hv5.dp, hu5.dp, shaped_wd _, shaped_wd _, _, rfl, ?_⟩
    rw [eqv_wd]
    refine ⟨_, rfl, _, rfl, _, _, hu5.dp, .str _, shaped_wd _, shaped_len, _, rfl, ?_⟩
    rw [eqv_wd_len]
    by_cases f : Fits n z
    · have eo := ho1 f
      subst eo
      rcases hu5 with ⟨z, _⟩ | ⟨ns, e, hu5⟩
      · cases z
      cases e
      rcases hv5 with ⟨z, _⟩ | ⟨ns, e, hv5⟩
      · cases z
      cases e
      rcases hg with ⟨z, _⟩ | ⟨ns, e, hg⟩
      · cases z
      cases e
      obtain ⟨a, rfl, ha, hlt⟩ := hu5
      refine ⟨_, rfl, a, _, rfl, ha, fun p hp => ?_⟩
      have kp : Kp [] H5 (upd H5 p (.tup (octV (leO n.toNat z.toNat)).reverse)) := Kp.new hp
      have hg6 := hg.kp kp
      have hr6 : Oct K (upd H5 p (.tup (octV (leO n.toNat z.toNat)).reverse)) (.ref p) (leO n.toNat z.toNat).reverse := ⟨p, rfl, sqT_of (by rw [upd_same, List.map_reverse]), fun m hm => hlt m (List.mem_reverse.mp hm)⟩
      refine ⟨_, _, hg6.dp, hr6.dp, shaped_oct _, shaped_oct _, _, rfl, ?_⟩
      have hu6 : Oct K (upd H5 p (.tup (octV (leO n.toNat z.toNat)).reverse)) (.ref a) (leO n.toNat z.toNat) := Oct.kp kp ⟨a, rfl, ha, hlt⟩
      have hv6 := hv5.kp kp
      have kG := kF.trans kp
      have hP6 := kG.tab _ hP2
      clear hp kp ha
      generalize upd H5 p (.tup (octV (leO n.toNat z.toNat)).reverse) = H6 at *
      rw [eqv_oct, decide_eq_true rfl]
      refine ⟨_, rfl, _, _, hu6.dp, .str _, shaped_oct _, shaped_len, _, rfl, ?_⟩
      rw [show PyData.eqv (octD (leO n.toNat z.toNat)) (.str "length") = false from eqv_wd_len (some _)]
      have hl : (leO n.toNat z.toNat).length ≤ 4096 := by rw [leO_len]; omega
      have hl2 : (leO n.toNat z.toNat).reverse.length ≤ 4096 := by rw [List.length_reverse]; exact hl
      have lt := fits_lt f
      have vb : valB (leO n.toNat z.toNat).reverse = n.toNat := by rw [valB_leO, Nat.mod_eq_of_lt lt]
      have e1 : ((valB (leO n.toNat z.toNat).reverse : Nat) : Int) = n := by rw [vb, Int.toNat_of_nonneg f.2.1]
      -- from_little(small) == number and from_big(great) == number and from_big(small) == from_little(great)
      refine ⟨_, rfl, _, rfl, hP6, .inr ⟨_, hv6, fun z => absurd z (by omega), fun _ H7 k7 => ?_⟩⟩
      refine ⟨_, rfl, rfl, _, rfl, ite2 (fun _ => ?_) (fun c => absurd (decide_eq_true (congrArg V.int (e1))) c)⟩
      have hg7 := hg6.kp k7
      have hv7 := hv6.kp k7
      have hP7 := k7.tab _ hP6
      refine ⟨_, rfl, _, rfl, hP7, .inr ⟨_, hg7, fun z => absurd z (by omega), fun _ H8 k8 => ?_⟩⟩
      refine ⟨_, rfl, rfl, _, rfl, ite2 (fun _ => ?_) (fun c => absurd (decide_eq_true (congrArg V.int (e1))) c)⟩
      have hg8 := hg7.kp k8
      have hv8 := hv7.kp k8
      have hP8 := k8.tab _ hP7
      refine ⟨_, rfl, _, rfl, hP8, .inr ⟨_, hv8, fun z => absurd z (by omega), fun _ H9 k9 => ?_⟩⟩
      have hg9 := hg8.kp k9
      have hP9 := k9.tab _ hP8
      refine ⟨_, rfl, _, rfl, hP9, .inr ⟨_, hg9, fun z => absurd z (by omega), fun _ H10 k10 => ⟨rfl, ?_⟩⟩⟩
      refine qT (congrArg V.int ?_) (fin _ ((((kG.trans k7).trans k8).trans k9).trans k10))
      show ((valB (leO n.toNat z.toNat) : Nat) : Int) = (valB (leO n.toNat z.toNat).reverse.reverse : Nat)
      rw [List.reverse_reverse]
    · have eo := ho0 f
      subst eo
      rcases hu5 with ⟨_, rfl⟩ | ⟨ns, e, _⟩
      rcases hg with ⟨_, rfl⟩ | ⟨ns, e, _⟩
      · refine ⟨_, rfl, _, _, .str _, .str _, shaped_len, shaped_len, _, rfl, ?_⟩
        rw [show PyData.eqv (.str "length") (.str "length") = true from eqv_wd none]
        refine ⟨_, rfl, _, _, .str _, .str _, shaped_len, shaped_len, _, rfl, ?_⟩
        rw [show PyData.eqv (.str "length") (.str "length") = true from eqv_wd none]
        exact fin _ kF
      · cases e
      · cases e
end
end SK
namespace SK
open PySem PySem.Spec PyProof.Rows L2 GxR SM
section
variable {P : Program} {w : World} {K : PySem.W.Frag} {mg : Str → Option Value} {base : Heap}
def spLaw (K : PySem.W.Frag) (P : Addr) : Sp := fun vs H Q _ => ∃ (a : Addr) (ns : List Int), vs = [.ref a] ∧ SqL K H a (ns.map V.int) ∧ ns.length ≤ 63 ∧ TabG H P ∧ ∀ H', Q (.bl true) H'
theorem news_t {H : Hp} {p : Addr} {xs : List V} (h : H p = none) : Kp [] H (upd H p (.tup xs)) ∧ SqT K (upd H p (.tup xs)) p xs := ⟨Kp.new h, sqT_of upd_same⟩
theorem news_l {H : Hp} {p : Addr} {xs : List V} (h : H p = none) : Kp [] H (upd H p (.lst xs)) ∧ SqL K (upd H p (.lst xs)) p xs := ⟨Kp.new h, sqL_of upd_same⟩
theorem TyA.kpS {H H' : Hp} {S L : Addr} {v : V} {t : String} (D : Drw K H S L) (D' : Drw K H' S L) (k : Kp [S] H H') (h : TyA K H v t) : TyA K H' v t := by
  cases v with
  | ref a =>
    obtain ⟨ys, e⟩ := D.cell
    rcases h with ⟨rfl, xs, h⟩ | ⟨rfl, xs, h⟩
    · by_cases z : a = S
      · subst z
        obtain ⟨zs, e'⟩ := D'.cell
        exact .inl ⟨rfl, _, sqL_of e'⟩
      · exact .inl ⟨rfl, _, k.seqL h (by simpa using z)⟩
    · exact .inr ⟨rfl, _, k.seqTS e h⟩
  | _ => exact h
theorem OArg.kpS {H H' : Hp} {S L : Addr} {v : V} {b : Bool} (D : Drw K H S L) (D' : Drw K H' S L) (k : Kp [S] H H') (h : OArg K H v b) : OArg K H' v b := by
  obtain ⟨ys, e⟩ := D.cell
  rcases h with ⟨a, xs, rfl, h, ht, hb⟩ | ⟨⟨t, ht, n⟩, hb⟩
  · exact .inl ⟨a, xs, rfl, k.seqTS e h, fun x hx => (ht x hx).imp fun t h => TyA.kpS D D' k h, hb⟩
  · exact .inr ⟨⟨t, TyA.kpS D D' k ht, n⟩, hb⟩
/-- a part of octets -/
def cutN (ns : List Nat) (lo hi : Option Int) : List Nat := (ns.drop (HT.sIx ns.length 0 lo)).take (HT.sIx ns.length ns.length hi - HT.sIx ns.length 0 lo)
theorem cutV_oct (ns : List Nat) (lo hi : Option Int) : cutV (octV ns) lo hi = octV (cutN ns lo hi) := by
  unfold cutV cutN
  rw [List.length_map, ← List.map_drop, ← List.map_take]
theorem cutN_mem {ns : List Nat} {lo hi : Option Int} {n : Nat} (h : n ∈ cutN ns lo hi) : n ∈ ns := List.mem_of_mem_drop (List.mem_of_mem_take h)
/-- tuple([_law_draw(state, 256) for k in range(_law_draw(state, 61))]) -/
theorem draws_tup {E : XK} {S L : Addr} {H1 : Hp} {Q : VK} {o0 o2 o3 o4 o5 o6 o7 : Option V} (D1 : Drw K H1 S L) (q : ∀ H' v ns, Kp [S] H1 H' → Drw K H' S L → Oct K H' v ns → ns.length ≤ 60 → Q v H') :
    tCB (fun xs H Q => ∃ p ys, xs = [V.ref p] ∧ ((SqL K H p ys ∧ ∀ l, H l = none → Q (.ref l) (upd H l (.tup ys))) ∨ (SqT K H p ys ∧ Q (.ref p) H)))
      (tCons (tLc (iRng1 (tCons (tCallR (spDraw K) (fun _ => E) (tCons (tVar 1) (tCons (tC (.int 61)) tNil))) tNil)) (gName 3) tYes (tCallR (spDraw K) (fun _ => E0) (tCons (tVar 1) (tCons (tC (.int 256)) tNil))) [3]) tNil)
      [o0, some (.ref S), o2, o3, o4, o5, o6, o7] H1 Q := by
  refine ⟨.ref S, rfl, S, L, 61, rfl, by decide, by decide, D1, fun H2 m m0 m1 k2 D2 => ⟨m, rfl, by omega, by omega, fun D hD => ?_⟩⟩
  have ne : S ≠ D := ne_of_none D2.cell.choose_spec hD
  refine lc_it walk_range (fun i H' => Kp [S] H2 H' ∧ Drw K H' S L ∧ ∃ ns : List Nat, H' D = some (.lst (octV ns)) ∧ ns.length = i ∧ ∀ n ∈ ns, n < 256) ⟨Kp.new hD, D2.put hD D2 (Kp.refl _ _), [], upd_same, rfl, by simp⟩ (fun _ _ _ _ => True.intro) ?_ ?_
  · rintro i x H3 H4 hi ⟨k3, D3, ns, e, hl, hlt⟩ ⟨rfl, rfl⟩
    refine ⟨rfl, yes_then ⟨.ref S, rfl, S, L, 256, rfl, by decide, by decide, D3, fun H4 y y0 y1 k4 D4 => ?_⟩⟩
    refine ⟨octV ns, k4.at e (by simpa using ne.symm), ?_, (k3.trans k4).upd hD, D2.put hD D4 (k3.trans k4), ns ++ [y.toNat], ?_, ?_, ?_⟩
    · rw [List.length_map, hl]
      exact Nat.lt_of_lt_of_le (show i < 61 by omega) (by decide)
    · rw [upd_same, octV_snoc, Int.toNat_of_nonneg y0]
    · rw [List.length_append, hl]; rfl
    · intro n hn
      rcases List.mem_append.mp hn with h | h
      · exact hlt n h
      · cases List.mem_singleton.mp h
        omega
  · rintro H3 ⟨k3, D3, ns, e, hl, hlt⟩
    refine ⟨D, _, rfl, .inl ⟨sqL_of e, fun p hp => ?_⟩⟩
    exact q _ _ ns ((k2.trans k3).trans (Kp.new hp)) (D3.put hp D3 (Kp.refl _ _)) ⟨p, rfl, sqT_of upd_same, hlt⟩ (by omega)
theorem ok_law (T : Txt K mg) (G__law_draw : FnR P w K mg base (L2.CX P w) 1 T.a__law_draw (spDraw K)) (G__law_start : FnR P w K mg base (L2.CX P w) 1 T.a__law_start (spStart K))
    (G__law_numbers : FnR P w K mg base (L2.CX P w) 12 T.a__law_numbers (spNumbers K T.P_is_octets)) (G__law_xored : FnR P w K mg base (L2.CX P w) 10 T.a__law_xored (spXored K T.P_is_octets))
    (G_same_octets : FnR P w K mg base (L2.CX P w) 8 T.a_same_octets (sp2 K T.P_is_octets T.a_OctetError T.a_LengthError rSame))
    (G_is_octets : FnR P w K mg base (L2.CX P w) 5 T.a_is_octets (spIsOctets K T.P_is_octets))
    (G__law_refused : FnR P w K mg base (L2.CX P w) 12 T.a__law_refused (spRefused K T.P_is_octets)) :
    FnOk P w K mg base (L2.CX P w) 16 T.a_law T.d_law ["script"] (spLaw K T.P_is_octets) := by
  refine fn_mkO T.F_law sc_law (fun vs H Q E h => ?_) fun cdv A outer s H vs Q E hr h => ?_
  · obtain ⟨a, ns, rfl, _⟩ := h
    rfl
  · obtain ⟨a, ns, rfl, ha, hl, hP, q⟩ := h
    refine ⟨_, (pss_cons (ps_set (i := 1) sc_law.nd rfl (Or.inr rfl) (SM.pe_callR G__law_start (hr.mono (by decide)) (by rfl) T.g__law_start T.F__law_start.kp (SM.passE rfl rfl rfl rfl) (pa_cons (pv 0) pa_nil)))
      (pss_cons (ps_if (pt_not (pt_val (SM.pe_callR G__law_numbers (hr.mono (by decide)) (by rfl) T.g__law_numbers T.F__law_numbers.kp (SM.passE rfl rfl rfl rfl) (pa_cons (pv 1) pa_nil))))
      (pss_one (ps_ret pe_bl))
      pss_nil)
      (pss_cons (ps_set (i := 2) sc_law.nd rfl (Or.inr rfl) (pe_callTy call_tuple_of (by rfl) T.m_tuple (by decide +kernel) (pa_cons (pe_lc (own := [("k", 3)]) (g := gName 3) (tt := tYes) (by rfl) sc_law.nd (pi_range1 (by rfl) T.m_range (pa_cons (SM.pe_callR G__law_draw (hr.mono (by decide)) (by rfl) T.g__law_draw T.F__law_draw.kp (SM.passE rfl rfl rfl rfl) (pa_cons (pv 1) (pa_cons pe_int pa_nil))) pa_nil)) (blkOk_by (own := [("k", 3)]) (N := n_law) (sc := defScope s_law) (by decide +kernel)) (fun _ _ _ _ _ => pg_name (i := 3) sc_law.nd rfl (Or.inl rfl)) (fun _ _ _ _ _ => pts_nil) (fun _ _ _ _ _ => (SM.pe_callR G__law_draw (hr.mono (by decide)) (by rfl) T.g__law_draw T.F__law_draw.kp SM.pass0S (pa_cons (pv 1) (pa_cons pe_int pa_nil))))) pa_nil)))
      (pss_cons (ps_set (i := 4) sc_law.nd rfl (Or.inr rfl) (pv 2))
      (pss_cons (ps_if (pt_cmpR op_eq (SM.pe_callR G__law_draw (hr.mono (by decide)) (by rfl) T.g__law_draw T.F__law_draw.kp (SM.passE rfl rfl rfl rfl) (pa_cons (pv 1) (pa_cons pe_int pa_nil))) pe_int (nomark _))
      (pss_one (ps_set (i := 4) sc_law.nd rfl (Or.inr rfl) (pe_callTy call_tuple_of (by rfl) T.m_tuple (by decide +kernel) (pa_cons (pe_lc (own := [("k", 3)]) (g := gName 3) (tt := tYes) (by rfl) sc_law.nd (pi_range1 (by rfl) T.m_range (pa_cons (SM.pe_callR G__law_draw (hr.mono (by decide)) (by rfl) T.g__law_draw T.F__law_draw.kp (SM.passE rfl rfl rfl rfl) (pa_cons (pv 1) (pa_cons pe_int pa_nil))) pa_nil)) (blkOk_by (own := [("k", 3)]) (N := n_law) (sc := defScope s_law) (by decide +kernel)) (fun _ _ _ _ _ => pg_name (i := 3) sc_law.nd rfl (Or.inl rfl)) (fun _ _ _ _ _ => pts_nil) (fun _ _ _ _ _ => (SM.pe_callR G__law_draw (hr.mono (by decide)) (by rfl) T.g__law_draw T.F__law_draw.kp SM.pass0S (pa_cons (pv 1) (pa_cons pe_int pa_nil))))) pa_nil))))
      (pss_one (ps_if (PW.pt (pw_and (pt_truth (pv 2) (by intro _; rfl)) (pw_and1 (pt_cmpR op_gt (SM.pe_callR G__law_draw (hr.mono (by decide)) (by rfl) T.g__law_draw T.F__law_draw.kp (SM.passE rfl rfl rfl rfl) (pa_cons (pv 1) (pa_cons pe_int pa_nil))) pe_int (nomark _)))))
      (pss_cons (ps_set (i := 5) sc_law.nd rfl (Or.inl rfl) (SM.pe_callR G__law_draw (hr.mono (by decide)) (by rfl) T.g__law_draw T.F__law_draw.kp (SM.passE rfl rfl rfl rfl) (pa_cons (pv 1) (pa_cons (pe_callB call_len_seq (by rfl) T.m_len (by decide +kernel) (pa_cons (pv 2) pa_nil)) pa_nil))))
      (pss_one (ps_set (i := 4) sc_law.nd rfl (Or.inr rfl) (pe_op op_catA (pe_op op_catA (pe_slice sl_tupA (pv 2) po_none (po_some (pv 5))) (pe_tup (pa_cons (pe_op op_xor (pe_ix ix_tup (pv 2) (pv 5) (fun _ _ => rfl)) (pe_op op_add pe_int (SM.pe_callR G__law_draw (hr.mono (by decide)) (by rfl) T.g__law_draw T.F__law_draw.kp (SM.passE rfl rfl rfl rfl) (pa_cons (pv 1) (pa_cons pe_int pa_nil))))) pa_nil))) (pe_slice sl_tupA (pv 2) (po_some (pe_op op_add (pv 5) pe_int)) po_none)))))
      pss_nil)))
      (pss_cons (ps_set (i := 6) sc_law.nd rfl (Or.inl rfl) pe_str)
      (pss_cons (ps_if (pt_cmpR op_eq (pe_callB call_len_seq (by rfl) T.m_len (by decide +kernel) (pa_cons (pv 2) pa_nil)) (pe_callB call_len_seq (by rfl) T.m_len (by decide +kernel) (pa_cons (pv 4) pa_nil)) (nomark _))
      (pss_one (ps_set (i := 6) sc_law.nd rfl (Or.inl rfl) (pe_callTy call_tuple_of (by rfl) T.m_tuple (by decide +kernel) (pa_cons (pe_lc (own := [("k", 3)]) (g := gName 3) (tt := tYes) (by rfl) sc_law.nd (pi_range1 (by rfl) T.m_range (pa_cons (pe_callB call_len_seq (by rfl) T.m_len (by decide +kernel) (pa_cons (pv 2) pa_nil)) pa_nil)) (blkOk_by (own := [("k", 3)]) (N := n_law) (sc := defScope s_law) (by decide +kernel)) (fun _ _ _ _ _ => pg_name (i := 3) sc_law.nd rfl (Or.inl rfl)) (fun _ _ _ _ _ => pts_nil) (fun _ _ _ _ _ => (pe_op op_xor (pe_ix (show IxR _ (rIxT K) from ix_tup) (pv 2) (pv 3) (fun _ _ => rfl)) (pe_ix (show IxR _ (rIxT K) from ix_tup) (pv 4) (pv 3) (fun _ _ => rfl))))) pa_nil))))
      pss_nil)
      (pss_cons (ps_if (PW.pt (pw_or (pt_cmpR (op_neD hr.units) (SM.pe_callR G__law_xored (hr.mono (by decide)) (by rfl) T.g__law_xored T.F__law_xored.kp (SM.passE rfl rfl rfl rfl) (pa_cons (pv 2) (pa_cons (pv 4) pa_nil))) (pv 6) (nomark _)) (pw_or1 (pt_cmpR op_ne (SM.pe_callR G_same_octets (hr.mono (by decide)) (by rfl) T.g_same_octets T.F_same_octets.kp (SM.passE rfl rfl rfl rfl) (pa_cons (pv 2) (pa_cons (pv 4) pa_nil))) (pe_cmpR (op_eqD hr.units) (pv 2) (pv 4) (nomark _)) (nomark _)))))
      (pss_one (ps_ret pe_bl))
      pss_nil)
      (pss_cons (ps_set (i := 7) sc_law.nd rfl (Or.inl rfl) (pe_ix ix_list (pe_lst (pa_cons (pe_lst (pa_cons pe_int (pa_cons pe_int pa_nil))) (pa_cons pe_non (pa_cons pe_str (pa_cons pe_int (pa_cons (pe_tup (pa_cons pe_int (pa_cons pe_bl pa_nil))) (pa_cons (pe_tup (pa_cons pe_int (pa_cons (pe_un un_neg pe_int) pa_nil))) (pa_cons (pe_tup (pa_cons pe_int pa_nil)) (pa_cons (pe_tup (pa_cons pe_int (pa_cons pe_str pa_nil))) (pa_cons (pe_tup (pa_cons (pe_tup (pa_cons pe_int pa_nil)) pa_nil)) (pa_cons (pe_tup (pa_cons pe_int (pa_cons pe_non pa_nil))) (pa_cons (pe_tup (pa_cons (pe_lst pa_nil) pa_nil)) (pa_cons pe_bl pa_nil))))))))))))) (SM.pe_callR G__law_draw (hr.mono (by decide)) (by rfl) T.g__law_draw T.F__law_draw.kp (SM.passE rfl rfl rfl rfl) (pa_cons (pv 1) (pa_cons pe_int pa_nil))) (fun _ _ => rfl)))
      (pss_cons (ps_if (PW.pt (pw_or (pt_cmpR op_notBl (SM.pe_callR G_is_octets (hr.mono (by decide)) (by rfl) T.g_is_octets T.F_is_octets.kp (SM.passE rfl rfl rfl rfl) (pa_cons (pv 2) pa_nil)) pe_bl (nomark _)) (pw_or (pt_cmpR op_notBl (SM.pe_callR G_is_octets (hr.mono (by decide)) (by rfl) T.g_is_octets T.F_is_octets.kp (SM.passE rfl rfl rfl rfl) (pa_cons (pe_tup pa_nil) pa_nil)) pe_bl (nomark _)) (pw_or1 (pt_cmpR op_notBl (SM.pe_callR G_is_octets (hr.mono (by decide)) (by rfl) T.g_is_octets T.F_is_octets.kp (SM.passE rfl rfl rfl rfl) (pa_cons (pv 7) pa_nil)) pe_bl (nomark _))))))
      (pss_one (ps_ret pe_bl))
      pss_nil)
      (pss_one (ps_ret (SM.pe_callR G__law_refused (hr.mono (by decide)) (by rfl) T.g__law_refused T.F__law_refused.kp (SM.passE rfl rfl rfl rfl) (pa_cons (pv 7) (pa_cons (pv 2) pa_nil))))))))))))))), ?_⟩
    refine cutAt (fun σ H' => ∃ S L, σ = [some (.ref a), some (.ref S), none, none, none, none, none, none] ∧ Kp [] H H' ∧ Drw K H' S L) (fun N hN => ?_) ?_
    · exact ⟨_, rfl, a, ns, rfl, ha, hl, fun H1 S L k1 hS D1 => hN _ _ ⟨S, L, rfl, k1, D1⟩⟩
    rintro _ H1 ⟨S, L, rfl, k1, D1⟩
    have hP1 := k1.tab _ hP
    refine cutAt (fun σ H' => σ = [some (.ref a), some (.ref S), none, none, none, none, none, none] ∧ Kp [S] H1 H' ∧ Drw K H' S L) (fun N hN => ?_) ?_
    · exact ⟨_, rfl, S, L, rfl, hP1, D1, fun H2 k2 D2 => ⟨true, rfl, ite2 (fun c => by cases c) (fun _ => hN _ _ ⟨rfl, k2, D2⟩)⟩⟩
    rintro _ H2 ⟨rfl, k2, D2⟩
    have hP2 := k2.tab _ hP1
    -- first
    refine cutAt (fun σ H' => (∃ f fs, σ = [some (.ref a), some (.ref S), some f, none, none, none, none, none] ∧ Oct K H' f fs ∧ fs.length ≤ 60) ∧ Kp [S] H2 H' ∧ Drw K H' S L) (fun N hN => ?_) ?_
    · exact draws_tup D2 fun H3 f fs k3 D3 F3 fl => hN _ _ ⟨⟨f, fs, rfl, F3, fl⟩, k3, D3⟩
    rintro _ H3 ⟨⟨f, fs, rfl, F3, fl⟩, k3, D3⟩
    have hP3 := k3.tab _ hP2
    refine cutAt (fun σ H' => σ = [some (.ref a), some (.ref S), some f, none, some f, none, none, none] ∧ H3 = H') (fun N hN => ⟨_, rfl, hN _ _ ⟨rfl, rfl⟩⟩) ?_
    rintro _ _ ⟨rfl, rfl⟩
    -- second
    refine cutAt (fun σ H' => (∃ (v : V) (ms : List Nat) (o3 o5 : Option V), σ = [some (.ref a), some (.ref S), some f, o3, some v, o5, none, none] ∧ Oct K H' v ms ∧ ms.length ≤ 200) ∧ Kp [S] H3 H' ∧ Drw K H' S L) (fun N hN => ?_) ?_
    · refine ⟨.ref S, rfl, S, L, 2, rfl, by decide, by decide, D3, fun H4 x x0 x1 k4 D4 => ⟨rfl, _, rfl, ite2 (fun _ => ?_) (fun _ => ?_)⟩⟩
      · exact draws_tup D4 fun H5 v ms k5 D5 V5 ml => hN _ _ ⟨⟨v, ms, _, _, rfl, V5, by omega⟩, k4.trans k5, D5⟩
      have F4 := F3.kpS D3 k4
      obtain ⟨fa, rfl, hf, hlt⟩ := F4
      refine ⟨_, rfl, !(octV fs).isEmpty, .inr (.inl ⟨_, hf, rfl⟩), ite2 (fun c => ?_) (fun _ => hN _ _ ⟨⟨.ref fa, fs, _, _, rfl, ⟨fa, rfl, hf, hlt⟩, by omega⟩, k4, D4⟩)⟩
      have hne : 0 < fs.length := by
        cases fs with
        | nil => cases c
        | cons n ns => exact Nat.succ_pos _
      refine ⟨.ref S, rfl, S, L, 3, rfl, by decide, by decide, D4, fun H5 x x0 x1 k5 D5 => ⟨_, _, rfl, rfl, _, rfl, ite2 (fun _ => ?_) (fun _ => hN _ _ ⟨⟨.ref fa, fs, _, _, rfl, Oct.kpS D4 k5 ⟨fa, rfl, hf, hlt⟩, by omega⟩, k4.trans k5, D5⟩)⟩⟩
      have hf5 := k5.seqTS D4.cell.choose_spec hf
      refine ⟨.ref S, rfl, _, rfl, fa, _, rfl, .inr hf5, S, L, _, rfl, by rw [List.length_map]; omega, by rw [List.length_map]; omega, D5, fun H6 pl p0 p1 k6 D6 => ?_⟩
      rw [List.length_map] at p1
      have hf6 := k6.seqTS D5.cell.choose_spec hf5
      obtain ⟨i, rfl⟩ := Int.eq_ofNat_of_zero_le p0
      have hi : i < fs.length := by omega
      refine ⟨_, rfl, _, rfl, _, rfl, rSlA_of hf6 fun H7 b k7 hb => ?_⟩
      have hf7 := k7.seqT hf6
      have D7 := D6.kp k7
      refine ⟨_, rfl, _, rfl, fa, _, i, .int (fs[i] : Nat), rfl, rfl, hf7, atI_nat (by rw [List.getElem?_map, List.getElem?_eq_getElem hi]; rfl), .ref S, rfl, S, L, 255, rfl, by decide, by decide, D7, fun H8 e e0 e1 k8 D8 => ?_⟩
      refine ⟨_, _, rfl, rfl, _, _, rfl, rfl, (by show 1 ≤ sizeLine; decide), fun t ht => ?_⟩
      have hf8 := k8.seqTS D7.cell.choose_spec hf7
      have hb8 := k8.seqTS D7.cell.choose_spec hb
      have k9 : Kp [] H8 (upd H8 t (.tup [.int (Builtin.bitXor (fs[i] : Nat) (1 + e))])) := Kp.new ht
      have ht9 : SqT K (upd H8 t (.tup [.int (Builtin.bitXor (fs[i] : Nat) (1 + e))])) t [.int (Builtin.bitXor (fs[i] : Nat) (1 + e))] := sqT_of upd_same
      have hz : sizeLine = 16777216 := rfl
      have l1 : (cutV (fs.map fun n => V.int (n : Nat)) none (some (i : Int))).length ≤ fs.length := by
        have h := cutV_length (octV fs) none (some (i : Int))
        rwa [List.length_map] at h
      refine rCatA_of (k9.seqT hb8) ht9 (by rw [hz, List.length_singleton]; omega) fun H10 c k10 hc => ?_
      refine ⟨_, rfl, _, rfl, _, _, rfl, rfl, _, rfl, ?_⟩
      dsimp only [tNoPart]
      refine rSlA_of (k10.seqT (k9.seqT hf8)) fun H11 d k11 hd => ?_
      have l2 : (cutV (fs.map fun n => V.int (n : Nat)) (some ((i : Int) + 1)) none).length ≤ fs.length := by
        have h := cutV_length (octV fs) (some ((i : Int) + 1)) none
        rwa [List.length_map] at h
      refine rCatA_of (k11.seqT hc) hd (by rw [hz, List.length_append, List.length_singleton]; omega) fun H12 r k12 hr => ?_
      have kk := ((k9.trans k10).trans k11).trans k12
      refine hN _ _ ⟨⟨.ref r, cutN fs none (some (i : Int)) ++ [fs[i] ^^^ (1 + e).toNat] ++ cutN fs (some ((i : Int) + 1)) none, _, _, rfl, ⟨r, rfl, ?_, ?_⟩, ?_⟩, ?_, ?_⟩
      · have ex : Builtin.bitXor (fs[i] : Nat) (1 + e) = ((fs[i] ^^^ (1 + e).toNat : Nat) : Int) := by
          rw [← xor_nn, Int.toNat_of_nonneg (by omega)]
        rw [cutV_oct, cutV_oct, ex] at hr
        rw [List.map_append, List.map_append]
        exact hr
      · intro n hn
        rcases List.mem_append.mp hn with hn | hn
        · rcases List.mem_append.mp hn with hn | hn
          · exact hlt n (cutN_mem hn)
          · cases List.mem_singleton.mp hn
            exact Nat.xor_lt_two_pow (n := 8) (hlt _ (List.getElem_mem hi)) (by omega)
        · exact hlt n (cutN_mem hn)
      · rw [cutV_oct, List.length_map] at l1 l2
        rw [List.length_append, List.length_append, List.length_singleton]
        omega
      · exact (((((k4.trans k5).trans k6).trans k7.of0).trans k8).trans kk.of0)
      · exact D8.kp kk
    rintro _ H4 ⟨⟨v, ms, o3, o5, rfl, V4, ml⟩, k4, D4⟩
    have F4 := F3.kpS D3 k4
    have hP4 := k4.tab _ hP3
    clear k4 D3 F3 hP3 k3 D2 hP2 k2 hP1 k1 D1
    -- due
    refine cutAt (fun σ H' => σ = [some (.ref a), some (.ref S), some f, o3, some v, o5, some (.str "length"), none] ∧ H4 = H') (fun N hN => hN _ _ ⟨rfl, rfl⟩) ?_
    rintro _ _ ⟨rfl, rfl⟩
    obtain ⟨o, ho0, ho1⟩ : ∃ o : Option (List Nat), (¬ fs.length = ms.length → o = none) ∧ (fs.length = ms.length → o = some (xorO fs ms)) := by
      by_cases f : fs.length = ms.length
      · exact ⟨_, fun h => absurd f h, fun _ => rfl⟩
      · exact ⟨none, fun _ => rfl, fun h => absurd h f⟩
    refine cutAt (fun σ H' => (∃ u o3, σ = [some (.ref a), some (.ref S), some f, o3, some v, o5, some u, none] ∧ Wd K H' u o) ∧ Kp [] H4 H') (fun N hN => ?_) ?_
    · obtain ⟨fa, rfl, hf, hfl⟩ := F4
      obtain ⟨va, rfl, hv, hvl⟩ := V4
      refine ⟨_, rfl, fa, _, rfl, .inr hf, _, rfl, va, _, rfl, .inr hv, rfl, _, rfl, ite2 (fun c => ?_) (fun c => hN _ _ ⟨⟨_, _, rfl, .inl ⟨ho0 fun e => c ?_, rfl⟩⟩, Kp.refl _ _⟩)⟩
      · have e : fs.length = ms.length := by
          have h := V.int.inj (of_decide_eq_true c)
          rw [List.length_map, List.length_map] at h
          omega
        have hx := xorO_len e
        refine ⟨_, rfl, fa, _, rfl, .inr hf, _, rfl, by rw [List.length_map]; omega, by rw [List.length_map]; omega, fun D hD => ?_⟩
        refine lc_it walk_range (fun i H' => Kp [] H4 H' ∧ H' D = some (.lst (octV ((xorO fs ms).take i)))) ⟨Kp.new hD, by rw [List.take_zero]; exact upd_same⟩ (fun _ _ _ _ => True.intro) ?_ ?_
        · rintro i x H5 H6 hi ⟨k5, e5⟩ ⟨rfl, rfl⟩
          rw [List.length_map, Int.toNat_natCast] at hi
          have hi2 : i < ms.length := by omega
          refine ⟨rfl, yes_then ⟨_, rfl, _, rfl, fa, _, _, .int (fs[i] : Nat), rfl, rfl, k5.seqT hf, ?_, _, rfl, _, rfl, va, _, _, .int (ms[i] : Nat), rfl, rfl, k5.seqT hv, ?_, _, _, rfl, rfl, _, e5, ?_, k5.upd hD, ?_⟩⟩
          · rw [Int.zero_add]
            exact atI_nat (by rw [List.getElem?_map, List.getElem?_eq_getElem hi]; rfl)
          · rw [Int.zero_add]
            exact atI_nat (by rw [List.getElem?_map, List.getElem?_eq_getElem hi2]; rfl)
          · have hz : sizeLine = 16777216 := rfl
            rw [List.length_map, List.length_take, hz]
            omega
          · have g := xorO_get (List.getElem?_eq_getElem hi) (List.getElem?_eq_getElem hi2)
            rw [upd_same]
            show some (HO.lst (octV ((xorO fs ms).take i) ++ [V.int (Builtin.bitXor (fs[i] : Nat) (ms[i] : Nat))])) = _
            rw [xor_nn, List.take_succ, g, ← octV_snoc]
            rfl
        · rintro H5 ⟨k5, e5⟩
          rw [List.length_map, Int.toNat_natCast, ← hx, List.take_length] at e5
          refine ⟨D, _, rfl, .inl ⟨sqL_of e5, fun p hp => ?_⟩⟩
          exact hN _ _ ⟨⟨_, _, rfl, .inr ⟨_, ho1 e, p, rfl, sqT_of upd_same, xorO_lt hfl hvl⟩⟩, k5.trans (Kp.new hp)⟩
      · rw [List.length_map, List.length_map, e]
        exact decide_eq_true rfl
    rintro _ H5 ⟨⟨u, o3, rfl, hu⟩, k5⟩
    have F5 := F4.kp k5
    have V5 := V4.kp k5
    have D5 := D4.kp k5
    have hP5 := k5.tab _ hP4
    clear k5 F4 V4 D4 hP4
    -- _law_xored(first, second) != due or same_octets(first, second) != (first == second)
    refine cutAt (fun σ H' => σ = [some (.ref a), some (.ref S), some f, o3, some v, o5, some u, none] ∧ Kp [] H5 H') (fun N hN => ?_) ?_
    · refine ⟨_, rfl, _, rfl, f, v, fs, ms, rfl, hP5, F5, V5, by omega, by omega, rSz_of ho0 ho1 fun H6 y k6 hy => ?_⟩
      refine ⟨_, rfl, _, _, hy.dp, (hu.kp k6).dp, shaped_wd _, shaped_wd _, _, rfl, ?_⟩
      rw [eqv_wd]
      refine ⟨_, rfl, _, rfl, f, v, rfl, k6.tab _ hP5, .inr ⟨fs, ms, F5.kp k6, V5.kp k6, fun z => by omega, fun _ _ H7 k7 => ?_⟩⟩
      refine ⟨_, rfl, _, rfl, _, _, ((F5.kp k6).kp k7).dp, ((V5.kp k6).kp k7).dp, shaped_oct _, shaped_oct _, ?_⟩
      rw [eqv_oct]
      refine ⟨rfl, _, rfl, ite2 (fun c => absurd c (by simp)) fun _ => hN _ _ ⟨rfl, k6.trans k7⟩⟩
    rintro _ H6 ⟨rfl, k6⟩
    have F6 := F5.kp k6
    have D6 := D5.kp k6
    have hP6 := k6.tab _ hP5
    clear k6 F5 V5 D5 hP5
    -- bad
    refine cutAt (fun σ H' => ∃ b, σ = [some (.ref a), some (.ref S), some f, o3, some v, o5, some u, some b] ∧ OArg K H' b false ∧ Kp [S] H6 H') (fun N hN => ?_) ?_
    · -- the values made
      refine ⟨(by show 2 ≤ sizeLine; decide), fun p1 h1 => ?_⟩
      obtain ⟨k1, g1⟩ := news_l (K := K) (xs := [.int 1, .int 2]) h1
      have kk := k1
      have A1 : OArg K _ (.ref p1) false := .inr ⟨⟨"list", .inl ⟨rfl, _, g1⟩, by decide⟩, rfl⟩
      refine ⟨(by show 2 ≤ sizeLine; decide), fun p2 h2 => ?_⟩
      obtain ⟨k2, g2⟩ := news_t (K := K) (xs := [.int 1, .bl true]) h2
      replace A1 := A1.kp k2
      replace kk := kk.trans k2
      have A2 : OArg K _ (.ref p2) false := .inl ⟨p2, _, rfl, g2, List.forall_mem_cons.mpr ⟨⟨"int", rfl⟩, List.forall_mem_cons.mpr ⟨⟨"bool", rfl⟩, fun _ z => by cases z⟩⟩, by decide⟩
      refine ⟨_, rfl, (by show 2 ≤ sizeLine; decide), fun p3 h3 => ?_⟩
      obtain ⟨k3, g3⟩ := news_t (K := K) (xs := [.int 3, .int (-1)]) h3
      replace A1 := A1.kp k3
      replace A2 := A2.kp k3
      replace kk := kk.trans k3
      have A3 : OArg K _ (.ref p3) false := .inl ⟨p3, _, rfl, g3, List.forall_mem_cons.mpr ⟨⟨"int", rfl⟩, List.forall_mem_cons.mpr ⟨⟨"int", rfl⟩, fun _ z => by cases z⟩⟩, by decide⟩
      refine ⟨(by show 1 ≤ sizeLine; decide), fun p4 h4 => ?_⟩
      obtain ⟨k4, g4⟩ := news_t (K := K) (xs := [.int 256]) h4
      replace A1 := A1.kp k4
      replace A2 := A2.kp k4
      replace A3 := A3.kp k4
      replace kk := kk.trans k4
      have A4 : OArg K _ (.ref p4) false := .inl ⟨p4, _, rfl, g4, List.forall_mem_cons.mpr ⟨⟨"int", rfl⟩, fun _ z => by cases z⟩, by decide⟩
      refine ⟨(by show 2 ≤ sizeLine; decide), fun p5 h5 => ?_⟩
      obtain ⟨k5, g5⟩ := news_t (K := K) (xs := [.int 1, .str "2"]) h5
      replace A1 := A1.kp k5
      replace A2 := A2.kp k5
      replace A3 := A3.kp k5
      replace A4 := A4.kp k5
      replace kk := kk.trans k5
      have A5 : OArg K _ (.ref p5) false := .inl ⟨p5, _, rfl, g5, List.forall_mem_cons.mpr ⟨⟨"int", rfl⟩, List.forall_mem_cons.mpr ⟨⟨"str", rfl⟩, fun _ z => by cases z⟩⟩, by decide⟩
      refine ⟨(by show 1 ≤ sizeLine; decide), fun p6 h6 => ?_⟩
      obtain ⟨k6, g6⟩ := news_t (K := K) (xs := [.int 1]) h6
      replace A1 := A1.kp k6
      replace A2 := A2.kp k6
      replace A3 := A3.kp k6
      replace A4 := A4.kp k6
      replace A5 := A5.kp k6
      replace kk := kk.trans k6
      refine ⟨(by show 1 ≤ sizeLine; decide), fun p7 h7 => ?_⟩
      obtain ⟨k7, g7⟩ := news_t (K := K) (xs := [.ref p6]) h7
      replace A1 := A1.kp k7
      replace A2 := A2.kp k7
      replace A3 := A3.kp k7
      replace A4 := A4.kp k7
      replace A5 := A5.kp k7
      replace kk := kk.trans k7
      have A7 : OArg K _ (.ref p7) false := .inl ⟨p7, _, rfl, g7, List.forall_mem_cons.mpr ⟨⟨"tuple", .inr ⟨rfl, _, k7.seqT g6⟩⟩, fun _ z => by cases z⟩, by simp [isOct]⟩
      refine ⟨(by show 2 ≤ sizeLine; decide), fun p8 h8 => ?_⟩
      obtain ⟨k8, g8⟩ := news_t (K := K) (xs := [.int 0, .non]) h8
      replace A1 := A1.kp k8
      replace A2 := A2.kp k8
      replace A3 := A3.kp k8
      replace A4 := A4.kp k8
      replace A5 := A5.kp k8
      replace A7 := A7.kp k8
      replace kk := kk.trans k8
      have A8 : OArg K _ (.ref p8) false := .inl ⟨p8, _, rfl, g8, List.forall_mem_cons.mpr ⟨⟨"int", rfl⟩, List.forall_mem_cons.mpr ⟨⟨"NoneType", rfl⟩, fun _ z => by cases z⟩⟩, by decide⟩
      refine ⟨(by show 0 ≤ sizeLine; decide), fun p9 h9 => ?_⟩
      obtain ⟨k9, g9⟩ := news_l (K := K) (xs := []) h9
      replace A1 := A1.kp k9
      replace A2 := A2.kp k9
      replace A3 := A3.kp k9
      replace A4 := A4.kp k9
      replace A5 := A5.kp k9
      replace A7 := A7.kp k9
      replace A8 := A8.kp k9
      replace kk := kk.trans k9
      have A9 : OArg K _ (.ref p9) false := .inr ⟨⟨"list", .inl ⟨rfl, _, g9⟩, by decide⟩, rfl⟩
      refine ⟨(by show 1 ≤ sizeLine; decide), fun p10 h10 => ?_⟩
      obtain ⟨k10, g10⟩ := news_t (K := K) (xs := [.ref p9]) h10
      replace A1 := A1.kp k10
      replace A2 := A2.kp k10
      replace A3 := A3.kp k10
      replace A4 := A4.kp k10
      replace A5 := A5.kp k10
      replace A7 := A7.kp k10
      replace A8 := A8.kp k10
      replace kk := kk.trans k10
      have A10 : OArg K _ (.ref p10) false := .inl ⟨p10, _, rfl, g10, List.forall_mem_cons.mpr ⟨⟨"list", .inl ⟨rfl, _, k10.seqL g9⟩⟩, fun _ z => by cases z⟩, by simp [isOct]⟩
      refine ⟨(by show 12 ≤ sizeLine; decide), fun pL hL => ?_⟩
      have neL : S ≠ pL := ne_of_none (D6.kp kk).cell.choose_spec hL
      obtain ⟨kL, gL⟩ := news_l (K := K) (xs := [.ref p1, .non, .str "ab", .int 5, .ref p2, .ref p3, .ref p4, .ref p5, .ref p7, .ref p8, .ref p10, .bl true]) hL
      replace A1 := A1.kp kL
      replace A2 := A2.kp kL
      replace A3 := A3.kp kL
      replace A4 := A4.kp kL
      replace A5 := A5.kp kL
      replace A7 := A7.kp kL
      replace A8 := A8.kp kL
      replace A10 := A10.kp kL
      replace kk := kk.trans kL
      have DL := D6.kp kk
      refine ⟨.ref S, rfl, S, L, 12, rfl, by decide, by decide, DL, fun H8 j j0 j1 k8 D8 => ?_⟩
      replace A1 := A1.kpS DL D8 k8
      replace A2 := A2.kpS DL D8 k8
      replace A3 := A3.kpS DL D8 k8
      replace A4 := A4.kpS DL D8 k8
      replace A5 := A5.kpS DL D8 k8
      replace A7 := A7.kpS DL D8 k8
      replace A8 := A8.kpS DL D8 k8
      replace A10 := A10.kpS DL D8 k8
      have gL8 := k8.seqL gL (by simpa using neL.symm)
      have kE := kk.of0.trans k8
      have tyN : OArg K H8 .non false := .inr ⟨⟨"NoneType", rfl, by decide⟩, rfl⟩
      have tyS : OArg K H8 (.str "ab") false := .inr ⟨⟨"str", rfl, by decide⟩, rfl⟩
      have tyI : OArg K H8 (.int 5) false := .inr ⟨⟨"int", rfl, by decide⟩, rfl⟩
      have tyB : OArg K H8 (.bl true) false := .inr ⟨⟨"bool", rfl, by decide⟩, rfl⟩
      obtain ⟨i, rfl⟩ := Int.eq_ofNat_of_zero_le j0
      have hi : i = 0 ∨ i = 1 ∨ i = 2 ∨ i = 3 ∨ i = 4 ∨ i = 5 ∨ i = 6 ∨ i = 7 ∨ i = 8 ∨ i = 9 ∨ i = 10 ∨ i = 11 := by omega
      rcases hi with rfl | rfl | rfl | rfl | rfl | rfl | rfl | rfl | rfl | rfl | rfl | rfl
      · exact ⟨pL, _, _, _, rfl, rfl, gL8, rfl, hN _ _ ⟨_, rfl, A1, kE⟩⟩
      · exact ⟨pL, _, _, _, rfl, rfl, gL8, rfl, hN _ _ ⟨_, rfl, tyN, kE⟩⟩
      · exact ⟨pL, _, _, _, rfl, rfl, gL8, rfl, hN _ _ ⟨_, rfl, tyS, kE⟩⟩
      · exact ⟨pL, _, _, _, rfl, rfl, gL8, rfl, hN _ _ ⟨_, rfl, tyI, kE⟩⟩
      · exact ⟨pL, _, _, _, rfl, rfl, gL8, rfl, hN _ _ ⟨_, rfl, A2, kE⟩⟩
      · exact ⟨pL, _, _, _, rfl, rfl, gL8, rfl, hN _ _ ⟨_, rfl, A3, kE⟩⟩
      · exact ⟨pL, _, _, _, rfl, rfl, gL8, rfl, hN _ _ ⟨_, rfl, A4, kE⟩⟩
      · exact ⟨pL, _, _, _, rfl, rfl, gL8, rfl, hN _ _ ⟨_, rfl, A5, kE⟩⟩
      · exact ⟨pL, _, _, _, rfl, rfl, gL8, rfl, hN _ _ ⟨_, rfl, A7, kE⟩⟩
      · exact ⟨pL, _, _, _, rfl, rfl, gL8, rfl, hN _ _ ⟨_, rfl, A8, kE⟩⟩
      · exact ⟨pL, _, _, _, rfl, rfl, gL8, rfl, hN _ _ ⟨_, rfl, A10, kE⟩⟩
      · exact ⟨pL, _, _, _, rfl, rfl, gL8, rfl, hN _ _ ⟨_, rfl, tyB, kE⟩⟩
    rintro _ H7 ⟨b, rfl, hb, k7⟩
    have F7 := F6.kpS D6 k7
    have hP7 := k7.tab _ hP6
    refine cutAt (fun σ H' => σ = [some (.ref a), some (.ref S), some f, o3, some v, o5, some u, some b] ∧ Kp [] H7 H') (fun N hN => ?_) ?_
    · refine ⟨_, rfl, _, _, rfl, F7.arg, hP7, fun H8 k8 => ?_⟩
      refine ⟨_, _, rfl, rfl, _, rfl, ite2 (fun c => absurd c (by decide)) fun _ => ?_⟩
      refine ⟨(by show 0 ≤ sizeLine; decide), fun p hp => ?_⟩
      have k9 : Kp [] H8 (upd H8 p (.tup [])) := Kp.new hp
      have kk := k8.trans k9
      refine ⟨_, true, rfl, .inl ⟨p, [], rfl, sqT_of upd_same, by simp, rfl⟩, kk.tab _ hP7, fun H10 k10 => ?_⟩
      refine ⟨_, _, rfl, rfl, _, rfl, ite2 (fun c => absurd c (by decide)) fun _ => ?_⟩
      refine ⟨_, rfl, _, false, rfl, hb.kp (kk.trans k10), (kk.trans k10).tab _ hP7, fun H11 k11 => ?_⟩
      refine ⟨_, _, rfl, rfl, _, rfl, ite2 (fun c => absurd c (by decide)) fun _ => ?_⟩
      exact hN _ _ ⟨rfl, (kk.trans k10).trans k11⟩
    rintro _ H8 ⟨rfl, k8⟩
    exact ⟨_, rfl, _, rfl, b, f, fs, rfl, k8.tab _ hP7, hb.kp k8, F7.kp k8, fun H' _ => q H'⟩
end
end SK
namespace SK
open PySem PySem.Spec PyProof.Rows L2 GxR SM
theorem mkT {K : PySem.W.Frag} {h : Heap} {mg : Str → Option Value} {fa : Addr} (X : K.In h) (G : h.Ns mainGlobals mg) (hfa : mg "law" = some (.ref fa))
    {f_is_octet : Addr} {od_is_octet an_is_octet : Option Addr} {sl_is_octet : Array (Option Value)} {oc_is_octet kV_is_octet dc_is_octet pm_is_octet cd_is_octet ct_is_octet : Value}
    {f_is_octets c_is_octets : Addr} {od_is_octets an_is_octets : Option Addr} {sl_is_octets : Array (Option Value)} {oc_is_octets kV_is_octets dc_is_octets pm_is_octets ct_is_octets : Value}
    {P_is_octets : Addr} {co_is_octets : Value} {cq_is_octets : Option Addr} {cv_is_octets : Array Value} {cs_is_octets : Array (Option Value)}
    {f_check_octets c_check_octets : Addr} {od_check_octets an_check_octets : Option Addr} {sl_check_octets : Array (Option Value)} {oc_check_octets kV_check_octets dc_check_octets pm_check_octets ct_check_octets : Value}
    {f_to_hex : Addr} {od_to_hex an_to_hex : Option Addr} {sl_to_hex : Array (Option Value)} {oc_to_hex kV_to_hex dc_to_hex pm_to_hex cd_to_hex ct_to_hex : Value}
    {f_to_base64 : Addr} {od_to_base64 an_to_base64 : Option Addr} {sl_to_base64 : Array (Option Value)} {oc_to_base64 kV_to_base64 dc_to_base64 pm_to_base64 cd_to_base64 ct_to_base64 : Value}
    {f__group_text : Addr} {od__group_text an__group_text : Option Addr} {sl__group_text : Array (Option Value)} {oc__group_text kV__group_text dc__group_text pm__group_text cd__group_text ct__group_text : Value}
    {f_big : Addr} {od_big an_big : Option Addr} {sl_big : Array (Option Value)} {oc_big kV_big dc_big pm_big cd_big ct_big : Value}
    {f_little : Addr} {od_little an_little : Option Addr} {sl_little : Array (Option Value)} {oc_little kV_little dc_little pm_little cd_little ct_little : Value}
    {f_from_big : Addr} {od_from_big an_from_big : Option Addr} {sl_from_big : Array (Option Value)} {oc_from_big kV_from_big dc_from_big pm_from_big cd_from_big ct_from_big : Value}
    {f_from_little : Addr} {od_from_little an_from_little : Option Addr} {sl_from_little : Array (Option Value)} {oc_from_little kV_from_little dc_from_little pm_from_little cd_from_little ct_from_little : Value}
    {f_xor : Addr} {od_xor an_xor : Option Addr} {sl_xor : Array (Option Value)} {oc_xor kV_xor dc_xor pm_xor cd_xor ct_xor : Value}
    {f_same_octets : Addr} {od_same_octets an_same_octets : Option Addr} {sl_same_octets : Array (Option Value)} {oc_same_octets kV_same_octets dc_same_octets pm_same_octets cd_same_octets ct_same_octets : Value}
    {f__law_start : Addr} {od__law_start an__law_start : Option Addr} {sl__law_start : Array (Option Value)} {oc__law_start kV__law_start dc__law_start pm__law_start cd__law_start ct__law_start : Value}
    {f__law_draw : Addr} {od__law_draw an__law_draw : Option Addr} {sl__law_draw : Array (Option Value)} {oc__law_draw kV__law_draw dc__law_draw pm__law_draw cd__law_draw ct__law_draw : Value}
    {f__law_octets : Addr} {od__law_octets an__law_octets : Option Addr} {sl__law_octets : Array (Option Value)} {oc__law_octets kV__law_octets dc__law_octets pm__law_octets cd__law_octets ct__law_octets : Value}
    {f__law_sized : Addr} {od__law_sized an__law_sized : Option Addr} {sl__law_sized : Array (Option Value)} {oc__law_sized kV__law_sized dc__law_sized pm__law_sized cd__law_sized ct__law_sized : Value}
    {f__law_xored : Addr} {od__law_xored an__law_xored : Option Addr} {sl__law_xored : Array (Option Value)} {oc__law_xored kV__law_xored dc__law_xored pm__law_xored cd__law_xored ct__law_xored : Value}
    {f__law_refused : Addr} {od__law_refused an__law_refused : Option Addr} {sl__law_refused : Array (Option Value)} {oc__law_refused kV__law_refused dc__law_refused pm__law_refused cd__law_refused ct__law_refused : Value}
    {f__law_numbers : Addr} {od__law_numbers an__law_numbers : Option Addr} {sl__law_numbers : Array (Option Value)} {oc__law_numbers kV__law_numbers dc__law_numbers pm__law_numbers cd__law_numbers ct__law_numbers : Value}
    {f_law : Addr} {od_law an_law : Option Addr} {sl_law : Array (Option Value)} {oc_law kV_law dc_law pm_law cd_law ct_law : Value}
    {e_SaltmillError : Addr}
    {e_OctetError : Addr}
    {e_LengthError : Addr}
    {t_MOST_OCTETS : Tok}
    {t_ALPHABET : Tok}
    (n_is_octet : PySem.W.nsIn K mainGlobals "is_octet" = some (some (.ref f_is_octet)))
    (l_is_octet : K.lookup f_is_octet = some ⟨oc_is_octet, od_is_octet, .func (PySem.W.fnOf "is_octet" "is_octet" (defArgs s_is_octet) (defBody s_is_octet) (defScope s_is_octet) .none kV_is_octet dc_is_octet pm_is_octet an_is_octet cd_is_octet ct_is_octet), sl_is_octet⟩)
    (r_is_octet : PySem.W.codeIn K cd_is_octet "is_octet" = true)
    (k_is_octet : PySem.W.keepIn K (.ref f_is_octet) = true)
    (n_is_octets : PySem.W.nsIn K mainGlobals "is_octets" = some (some (.ref f_is_octets)))
    (l_is_octets : K.lookup f_is_octets = some ⟨oc_is_octets, od_is_octets, .func (PySem.W.fnOf "is_octets" "is_octets" (defArgs s_is_octets) (defBody s_is_octets) (defScope s_is_octets) .none kV_is_octets dc_is_octets pm_is_octets an_is_octets (.ref c_is_octets) ct_is_octets), sl_is_octets⟩)
    (r_is_octets : PySem.W.codeIn K (.ref c_is_octets) "is_octets" = true)
    (k_is_octets : PySem.W.keepIn K (.ref f_is_octets) = true)
    (t_is_octets : K.lookup c_is_octets = some ⟨co_is_octets, cq_is_octets, .fields cv_is_octets, cs_is_octets⟩)
    (u_is_octets : (cv_is_octets[11]? : Option Value) = some (.ref P_is_octets))
    (v_is_octets : K.lookup P_is_octets = none)
    (n_check_octets : PySem.W.nsIn K mainGlobals "check_octets" = some (some (.ref f_check_octets)))
    (l_check_octets : K.lookup f_check_octets = some ⟨oc_check_octets, od_check_octets, .func (PySem.W.fnOf "check_octets" "check_octets" (defArgs s_check_octets) (defBody s_check_octets) (defScope s_check_octets) .none kV_check_octets dc_check_octets pm_check_octets an_check_octets (.ref c_check_octets) ct_check_octets), sl_check_octets⟩)
    (r_check_octets : PySem.W.codeIn K (.ref c_check_octets) "check_octets" = true)
    (k_check_octets : PySem.W.keepIn K (.ref f_check_octets) = true)
    (n_to_hex : PySem.W.nsIn K mainGlobals "to_hex" = some (some (.ref f_to_hex)))
    (l_to_hex : K.lookup f_to_hex = some ⟨oc_to_hex, od_to_hex, .func (PySem.W.fnOf "to_hex" "to_hex" (defArgs s_to_hex) (defBody s_to_hex) (defScope s_to_hex) .none kV_to_hex dc_to_hex pm_to_hex an_to_hex cd_to_hex ct_to_hex), sl_to_hex⟩)
    (r_to_hex : PySem.W.codeIn K cd_to_hex "to_hex" = true)
    (k_to_hex : PySem.W.keepIn K (.ref f_to_hex) = true)
    (n_to_base64 : PySem.W.nsIn K mainGlobals "to_base64" = some (some (.ref f_to_base64)))
    (l_to_base64 : K.lookup f_to_base64 = some ⟨oc_to_base64, od_to_base64, .func (PySem.W.fnOf "to_base64" "to_base64" (defArgs s_to_base64) (defBody s_to_base64) (defScope s_to_base64) .none kV_to_base64 dc_to_base64 pm_to_base64 an_to_base64 cd_to_base64 ct_to_base64), sl_to_base64⟩)
    (r_to_base64 : PySem.W.codeIn K cd_to_base64 "to_base64" = true)
    (k_to_base64 : PySem.W.keepIn K (.ref f_to_base64) = true)
    (n__group_text : PySem.W.nsIn K mainGlobals "_group_text" = some (some (.ref f__group_text)))
    (l__group_text : K.lookup f__group_text = some ⟨oc__group_text, od__group_text, .func (PySem.W.fnOf "_group_text" "_group_text" (defArgs s__group_text) (defBody s__group_text) (defScope s__group_text) .none kV__group_text dc__group_text pm__group_text an__group_text cd__group_text ct__group_text), sl__group_text⟩)
    (r__group_text : PySem.W.codeIn K cd__group_text "_group_text" = true)
    (k__group_text : PySem.W.keepIn K (.ref f__group_text) = true)
    (n_big : PySem.W.nsIn K mainGlobals "big" = some (some (.ref f_big)))
    (l_big : K.lookup f_big = some ⟨oc_big, od_big, .func (PySem.W.fnOf "big" "big" (defArgs s_big) (defBody s_big) (defScope s_big) .none kV_big dc_big pm_big an_big cd_big ct_big), sl_big⟩)
    (r_big : PySem.W.codeIn K cd_big "big" = true)
    (k_big : PySem.W.keepIn K (.ref f_big) = true)
    (n_little : PySem.W.nsIn K mainGlobals "little" = some (some (.ref f_little)))
    (l_little : K.lookup f_little = some ⟨oc_little, od_little, .func (PySem.W.fnOf "little" "little" (defArgs s_little) (defBody s_little) (defScope s_little) .none kV_little dc_little pm_little an_little cd_little ct_little), sl_little⟩)
    (r_little : PySem.W.codeIn K cd_little "little" = true)
    (k_little : PySem.W.keepIn K (.ref f_little) = true)
    (n_from_big : PySem.W.nsIn K mainGlobals "from_big" = some (some (.ref f_from_big)))
    (l_from_big : K.lookup f_from_big = some ⟨oc_from_big, od_from_big, .func (PySem.W.fnOf "from_big" "from_big" (defArgs s_from_big) (defBody s_from_big) (defScope s_from_big) .none kV_from_big dc_from_big pm_from_big an_from_big cd_from_big ct_from_big), sl_from_big⟩)
    (r_from_big : PySem.W.codeIn K cd_from_big "from_big" = true)
    (k_from_big : PySem.W.keepIn K (.ref f_from_big) = true)
    (n_from_little : PySem.W.nsIn K mainGlobals "from_little" = some (some (.ref f_from_little)))
    (l_from_little : K.lookup f_from_little = some ⟨oc_from_little, od_from_little, .func (PySem.W.fnOf "from_little" "from_little" (defArgs s_from_little) (defBody s_from_little) (defScope s_from_little) .none kV_from_little dc_from_little pm_from_little an_from_little cd_from_little ct_from_little), sl_from_little⟩)
    (r_from_little : PySem.W.codeIn K cd_from_little "from_little" = true)
    (k_from_little : PySem.W.keepIn K (.ref f_from_little) = true)
    (n_xor : PySem.W.nsIn K mainGlobals "xor" = some (some (.ref f_xor)))
    (l_xor : K.lookup f_xor = some ⟨oc_xor, od_xor, .func (PySem.W.fnOf "xor" "xor" (defArgs s_xor) (defBody s_xor) (defScope s_xor) .none kV_xor dc_xor pm_xor an_xor cd_xor ct_xor), sl_xor⟩)
    (r_xor : PySem.W.codeIn K cd_xor "xor" = true)
    (k_xor : PySem.W.keepIn K (.ref f_xor) = true)
    (n_same_octets : PySem.W.nsIn K mainGlobals "same_octets" = some (some (.ref f_same_octets)))
    (l_same_octets : K.lookup f_same_octets = some ⟨oc_same_octets, od_same_octets, .func (PySem.W.fnOf "same_octets" "same_octets" (defArgs s_same_octets) (defBody s_same_octets) (defScope s_same_octets) .none kV_same_octets dc_same_octets pm_same_octets an_same_octets cd_same_octets ct_same_octets), sl_same_octets⟩)
    (r_same_octets : PySem.W.codeIn K cd_same_octets "same_octets" = true)
    (k_same_octets : PySem.W.keepIn K (.ref f_same_octets) = true)
    (n__law_start : PySem.W.nsIn K mainGlobals "_law_start" = some (some (.ref f__law_start)))
    (l__law_start : K.lookup f__law_start = some ⟨oc__law_start, od__law_start, .func (PySem.W.fnOf "_law_start" "_law_start" (defArgs s__law_start) (defBody s__law_start) (defScope s__law_start) .none kV__law_start dc__law_start pm__law_start an__law_start cd__law_start ct__law_start), sl__law_start⟩)
    (r__law_start : PySem.W.codeIn K cd__law_start "_law_start" = true)
    (k__law_start : PySem.W.keepIn K (.ref f__law_start) = true)
    (n__law_draw : PySem.W.nsIn K mainGlobals "_law_draw" = some (some (.ref f__law_draw)))
    (l__law_draw : K.lookup f__law_draw = some ⟨oc__law_draw, od__law_draw, .func (PySem.W.fnOf "_law_draw" "_law_draw" (defArgs s__law_draw) (defBody s__law_draw) (defScope s__law_draw) .none kV__law_draw dc__law_draw pm__law_draw an__law_draw cd__law_draw ct__law_draw), sl__law_draw⟩)
    (r__law_draw : PySem.W.codeIn K cd__law_draw "_law_draw" = true)
    (k__law_draw : PySem.W.keepIn K (.ref f__law_draw) = true)
    (n__law_octets : PySem.W.nsIn K mainGlobals "_law_octets" = some (some (.ref f__law_octets)))
    (l__law_octets : K.lookup f__law_octets = some ⟨oc__law_octets, od__law_octets, .func (PySem.W.fnOf "_law_octets" "_law_octets" (defArgs s__law_octets) (defBody s__law_octets) (defScope s__law_octets) .none kV__law_octets dc__law_octets pm__law_octets an__law_octets cd__law_octets ct__law_octets), sl__law_octets⟩)
    (r__law_octets : PySem.W.codeIn K cd__law_octets "_law_octets" = true)
    (k__law_octets : PySem.W.keepIn K (.ref f__law_octets) = true)
    (n__law_sized : PySem.W.nsIn K mainGlobals "_law_sized" = some (some (.ref f__law_sized)))
    (l__law_sized : K.lookup f__law_sized = some ⟨oc__law_sized, od__law_sized, .func (PySem.W.fnOf "_law_sized" "_law_sized" (defArgs s__law_sized) (defBody s__law_sized) (defScope s__law_sized) .none kV__law_sized dc__law_sized pm__law_sized an__law_sized cd__law_sized ct__law_sized), sl__law_sized⟩)
    (r__law_sized : PySem.W.codeIn K cd__law_sized "_law_sized" = true)
    (k__law_sized : PySem.W.keepIn K (.ref f__law_sized) = true)
    (n__law_xored : PySem.W.nsIn K mainGlobals "_law_xored" = some (some (.ref f__law_xored)))
    (l__law_xored : K.lookup f__law_xored = some ⟨oc__law_xored, od__law_xored, .func (PySem.W.fnOf "_law_xored" "_law_xored" (defArgs s__law_xored) (defBody s__law_xored) (defScope s__law_xored) .none kV__law_xored dc__law_xored pm__law_xored an__law_xored cd__law_xored ct__law_xored), sl__law_xored⟩)
    (r__law_xored : PySem.W.codeIn K cd__law_xored "_law_xored" = true)
    (k__law_xored : PySem.W.keepIn K (.ref f__law_xored) = true)
    (n__law_refused : PySem.W.nsIn K mainGlobals "_law_refused" = some (some (.ref f__law_refused)))
    (l__law_refused : K.lookup f__law_refused = some ⟨oc__law_refused, od__law_refused, .func (PySem.W.fnOf "_law_refused" "_law_refused" (defArgs s__law_refused) (defBody s__law_refused) (defScope s__law_refused) .none kV__law_refused dc__law_refused pm__law_refused an__law_refused cd__law_refused ct__law_refused), sl__law_refused⟩)
    (r__law_refused : PySem.W.codeIn K cd__law_refused "_law_refused" = true)
    (k__law_refused : PySem.W.keepIn K (.ref f__law_refused) = true)
    (n__law_numbers : PySem.W.nsIn K mainGlobals "_law_numbers" = some (some (.ref f__law_numbers)))
    (l__law_numbers : K.lookup f__law_numbers = some ⟨oc__law_numbers, od__law_numbers, .func (PySem.W.fnOf "_law_numbers" "_law_numbers" (defArgs s__law_numbers) (defBody s__law_numbers) (defScope s__law_numbers) .none kV__law_numbers dc__law_numbers pm__law_numbers an__law_numbers cd__law_numbers ct__law_numbers), sl__law_numbers⟩)
    (r__law_numbers : PySem.W.codeIn K cd__law_numbers "_law_numbers" = true)
    (k__law_numbers : PySem.W.keepIn K (.ref f__law_numbers) = true)
    (n_law : PySem.W.nsIn K mainGlobals "law" = some (some (.ref f_law)))
    (l_law : K.lookup f_law = some ⟨oc_law, od_law, .func (PySem.W.fnOf "law" "law" (defArgs s_law) (defBody s_law) (defScope s_law) .none kV_law dc_law pm_law an_law cd_law ct_law), sl_law⟩)
    (r_law : PySem.W.codeIn K cd_law "law" = true)
    (k_law : PySem.W.keepIn K (.ref f_law) = true)
    (n_SaltmillError : PySem.W.nsIn K mainGlobals "SaltmillError" = some (some (.ref e_SaltmillError)))
    (x_SaltmillError : PySem.W.excIn K e_SaltmillError [.type "ValueError", .type "Exception", .type "BaseException", .type "object"] "ValueError.__new__" = true)
    (k_SaltmillError : PySem.W.keepIn K (.ref e_SaltmillError) = true)
    (b_SaltmillError : PySem.W.subIn K (.ref e_SaltmillError) (.type "BaseException") = some true)
    (t_SaltmillError : PySem.W.typeIn K (.ref e_SaltmillError) = some (.type "type"))
    (h_SaltmillError : PySem.W.hasDictIn K e_SaltmillError = true)
    (n_OctetError : PySem.W.nsIn K mainGlobals "OctetError" = some (some (.ref e_OctetError)))
    (x_OctetError : PySem.W.excIn K e_OctetError [.type "ValueError", .type "Exception", .type "BaseException", .type "object"] "ValueError.__new__" = true)
    (k_OctetError : PySem.W.keepIn K (.ref e_OctetError) = true)
    (b_OctetError : PySem.W.subIn K (.ref e_OctetError) (.type "BaseException") = some true)
    (t_OctetError : PySem.W.typeIn K (.ref e_OctetError) = some (.type "type"))
    (h_OctetError : PySem.W.hasDictIn K e_OctetError = true)
    (n_LengthError : PySem.W.nsIn K mainGlobals "LengthError" = some (some (.ref e_LengthError)))
    (x_LengthError : PySem.W.excIn K e_LengthError [.type "ValueError", .type "Exception", .type "BaseException", .type "object"] "ValueError.__new__" = true)
    (k_LengthError : PySem.W.keepIn K (.ref e_LengthError) = true)
    (b_LengthError : PySem.W.subIn K (.ref e_LengthError) (.type "BaseException") = some true)
    (t_LengthError : PySem.W.typeIn K (.ref e_LengthError) = some (.type "type"))
    (h_LengthError : PySem.W.hasDictIn K e_LengthError = true)
    (sub_OctetError_SaltmillError : PySem.W.subIn K (.ref e_OctetError) (.ref e_SaltmillError) = some true)
    (sub_LengthError_SaltmillError : PySem.W.subIn K (.ref e_LengthError) (.ref e_SaltmillError) = some true)
    (sub_OctetError_LengthError : PySem.W.subIn K (.ref e_OctetError) (.ref e_LengthError) = some false)
    (sub_LengthError_LengthError : PySem.W.subIn K (.ref e_LengthError) (.ref e_LengthError) = some true)
    (sub_OctetError_OctetError : PySem.W.subIn K (.ref e_OctetError) (.ref e_OctetError) = some true)
    (sub_LengthError_OctetError : PySem.W.subIn K (.ref e_LengthError) (.ref e_OctetError) = some false)
    (xg_LengthError : PySem.W.findIn K (.ref e_LengthError) "__getattribute__" = some (some (.builtin "BaseException.__getattribute__")))
    (xk_LengthError : PySem.W.findIn K (.ref e_LengthError) "__getattr__" = some none)
    (xa_LengthError : PySem.W.findIn K (.ref e_LengthError) "__class__" = some (some (.builtin "object.__class__")))
    (xm_LengthError : PySem.W.mroIn K e_LengthError (.type "object") = some true)
    (xg_OctetError : PySem.W.findIn K (.ref e_OctetError) "__getattribute__" = some (some (.builtin "BaseException.__getattribute__")))
    (xk_OctetError : PySem.W.findIn K (.ref e_OctetError) "__getattr__" = some none)
    (xa_OctetError : PySem.W.findIn K (.ref e_OctetError) "__class__" = some (some (.builtin "object.__class__")))
    (xm_OctetError : PySem.W.mroIn K e_OctetError (.type "object") = some true)
    (xn : PySem.W.specialIn K (.builtin "object.__class__") "__get__" = some (some (.builtin "getset_descriptor.__get__")))
    (xt : PySem.W.takesIn K (.builtin "object.__class__") = some true)
    (n_MOST_OCTETS : PySem.W.nsIn K mainGlobals "MOST_OCTETS" = some (some (.int 4096 t_MOST_OCTETS)))
    (n_ALPHABET : PySem.W.nsIn K mainGlobals "ALPHABET" = some (some (.str "ABCDEFGHIJKLMNOPQRSTUVWXYZabcdefghijklmnopqrstuvwxyz0123456789+/" t_ALPHABET)))
    (m_abs : PySem.W.nsIn K mainGlobals "abs" = some none)
    (m_all : PySem.W.nsIn K mainGlobals "all" = some none)
    (m_bool : PySem.W.nsIn K mainGlobals "bool" = some none)
    (m_int : PySem.W.nsIn K mainGlobals "int" = some none)
    (m_isinstance : PySem.W.nsIn K mainGlobals "isinstance" = some none)
    (m_len : PySem.W.nsIn K mainGlobals "len" = some none)
    (m_list : PySem.W.nsIn K mainGlobals "list" = some none)
    (m_range : PySem.W.nsIn K mainGlobals "range" = some none)
    (m_tuple : PySem.W.nsIn K mainGlobals "tuple" = some none)
    (m_zip : PySem.W.nsIn K mainGlobals "zip" = some none) :
    ∃ T : Txt K mg, T.a_law = fa ∧ (∀ (s : Shared) (u : Value), BindsTo s T.d_law ⟨[u], []⟩ [("script", u)]) ∧ PySem.W.tabIn K "is_octets" = some (T.c_is_octets, T.P_is_octets) ∧ K.lookup T.P_is_octets = none := by
  have e := hfa.symm.trans (PySem.W.mg_of X G n_law)
  cases e
  have F_is_octet := fun_mk (st := s_is_octet) l_is_octet r_is_octet k_is_octet
  have F_is_octets := fun_mk (st := s_is_octets) l_is_octets r_is_octets k_is_octets
  have F_check_octets := fun_mk (st := s_check_octets) l_check_octets r_check_octets k_check_octets
  have F_to_hex := fun_mk (st := s_to_hex) l_to_hex r_to_hex k_to_hex
  have F_to_base64 := fun_mk (st := s_to_base64) l_to_base64 r_to_base64 k_to_base64
  have F__group_text := fun_mk (st := s__group_text) l__group_text r__group_text k__group_text
  have F_big := fun_mk (st := s_big) l_big r_big k_big
  have F_little := fun_mk (st := s_little) l_little r_little k_little
  have F_from_big := fun_mk (st := s_from_big) l_from_big r_from_big k_from_big
  have F_from_little := fun_mk (st := s_from_little) l_from_little r_from_little k_from_little
  have F_xor := fun_mk (st := s_xor) l_xor r_xor k_xor
  have F_same_octets := fun_mk (st := s_same_octets) l_same_octets r_same_octets k_same_octets
  have F__law_start := fun_mk (st := s__law_start) l__law_start r__law_start k__law_start
  have F__law_draw := fun_mk (st := s__law_draw) l__law_draw r__law_draw k__law_draw
  have F__law_octets := fun_mk (st := s__law_octets) l__law_octets r__law_octets k__law_octets
  have F__law_sized := fun_mk (st := s__law_sized) l__law_sized r__law_sized k__law_sized
  have F__law_xored := fun_mk (st := s__law_xored) l__law_xored r__law_xored k__law_xored
  have F__law_refused := fun_mk (st := s__law_refused) l__law_refused r__law_refused k__law_refused
  have F__law_numbers := fun_mk (st := s__law_numbers) l__law_numbers r__law_numbers k__law_numbers
  have F_law := fun_mk (st := s_law) l_law r_law k_law
  exact ⟨{ a_is_octet := f_is_octet,
            d_is_octet := PySem.W.fnOf "is_octet" "is_octet" (defArgs s_is_octet) (defBody s_is_octet) (defScope s_is_octet) .none kV_is_octet dc_is_octet pm_is_octet an_is_octet cd_is_octet ct_is_octet,
            F_is_octet := F_is_octet,
            g_is_octet := PySem.W.mg_of X G n_is_octet,
            b_is_octet := (F_is_octet.binds (ps := ["value"]) fun _ _ _ _ _ _ us hl => match us, hl with | [_], _ => rfl),
            a_is_octets := f_is_octets,
            d_is_octets := PySem.W.fnOf "is_octets" "is_octets" (defArgs s_is_octets) (defBody s_is_octets) (defScope s_is_octets) .none kV_is_octets dc_is_octets pm_is_octets an_is_octets (.ref c_is_octets) ct_is_octets,
            F_is_octets := F_is_octets,
            g_is_octets := PySem.W.mg_of X G n_is_octets,
            b_is_octets := (F_is_octets.binds (ps := ["value"]) fun _ _ _ _ _ _ us hl => match us, hl with | [_], _ => rfl),
            c_is_octets := c_is_octets,
            P_is_octets := P_is_octets,
            L_is_octets := ⟨_, _, _, _, _, _, _, _, l_is_octets, r_is_octets⟩,
            a_check_octets := f_check_octets,
            d_check_octets := PySem.W.fnOf "check_octets" "check_octets" (defArgs s_check_octets) (defBody s_check_octets) (defScope s_check_octets) .none kV_check_octets dc_check_octets pm_check_octets an_check_octets (.ref c_check_octets) ct_check_octets,
            F_check_octets := F_check_octets,
            g_check_octets := PySem.W.mg_of X G n_check_octets,
            c_check_octets := c_check_octets,
            P_check_octets := c_check_octets,
            L_check_octets := ⟨_, _, _, _, _, _, _, _, l_check_octets, r_check_octets⟩,
            a_to_hex := f_to_hex,
            d_to_hex := PySem.W.fnOf "to_hex" "to_hex" (defArgs s_to_hex) (defBody s_to_hex) (defScope s_to_hex) .none kV_to_hex dc_to_hex pm_to_hex an_to_hex cd_to_hex ct_to_hex,
            F_to_hex := F_to_hex,
            g_to_hex := PySem.W.mg_of X G n_to_hex,
            b_to_hex := (F_to_hex.binds (ps := ["octets"]) fun _ _ _ _ _ _ us hl => match us, hl with | [_], _ => rfl),
            a_to_base64 := f_to_base64,
            d_to_base64 := PySem.W.fnOf "to_base64" "to_base64" (defArgs s_to_base64) (defBody s_to_base64) (defScope s_to_base64) .none kV_to_base64 dc_to_base64 pm_to_base64 an_to_base64 cd_to_base64 ct_to_base64,
            F_to_base64 := F_to_base64,
            g_to_base64 := PySem.W.mg_of X G n_to_base64,
            b_to_base64 := (F_to_base64.binds (ps := ["octets"]) fun _ _ _ _ _ _ us hl => match us, hl with | [_], _ => rfl),
            a__group_text := f__group_text,
            d__group_text := PySem.W.fnOf "_group_text" "_group_text" (defArgs s__group_text) (defBody s__group_text) (defScope s__group_text) .none kV__group_text dc__group_text pm__group_text an__group_text cd__group_text ct__group_text,
            F__group_text := F__group_text,
            g__group_text := PySem.W.mg_of X G n__group_text,
            b__group_text := (F__group_text.binds (ps := ["group"]) fun _ _ _ _ _ _ us hl => match us, hl with | [_], _ => rfl),
            a_big := f_big,
            d_big := PySem.W.fnOf "big" "big" (defArgs s_big) (defBody s_big) (defScope s_big) .none kV_big dc_big pm_big an_big cd_big ct_big,
            F_big := F_big,
            g_big := PySem.W.mg_of X G n_big,
            b_big := (F_big.binds (ps := ["number", "size"]) fun _ _ _ _ _ _ us hl => match us, hl with | [_, _], _ => rfl),
            a_little := f_little,
            d_little := PySem.W.fnOf "little" "little" (defArgs s_little) (defBody s_little) (defScope s_little) .none kV_little dc_little pm_little an_little cd_little ct_little,
            F_little := F_little,
            g_little := PySem.W.mg_of X G n_little,
            b_little := (F_little.binds (ps := ["number", "size"]) fun _ _ _ _ _ _ us hl => match us, hl with | [_, _], _ => rfl),
            a_from_big := f_from_big,
            d_from_big := PySem.W.fnOf "from_big" "from_big" (defArgs s_from_big) (defBody s_from_big) (defScope s_from_big) .none kV_from_big dc_from_big pm_from_big an_from_big cd_from_big ct_from_big,
            F_from_big := F_from_big,
            g_from_big := PySem.W.mg_of X G n_from_big,
            b_from_big := (F_from_big.binds (ps := ["octets"]) fun _ _ _ _ _ _ us hl => match us, hl with | [_], _ => rfl),
            a_from_little := f_from_little,
            d_from_little := PySem.W.fnOf "from_little" "from_little" (defArgs s_from_little) (defBody s_from_little) (defScope s_from_little) .none kV_from_little dc_from_little pm_from_little an_from_little cd_from_little ct_from_little,
            F_from_little := F_from_little,
            g_from_little := PySem.W.mg_of X G n_from_little,
            b_from_little := (F_from_little.binds (ps := ["octets"]) fun _ _ _ _ _ _ us hl => match us, hl with | [_], _ => rfl),
            a_xor := f_xor,
            d_xor := PySem.W.fnOf "xor" "xor" (defArgs s_xor) (defBody s_xor) (defScope s_xor) .none kV_xor dc_xor pm_xor an_xor cd_xor ct_xor,
            F_xor := F_xor,
            g_xor := PySem.W.mg_of X G n_xor,
            b_xor := (F_xor.binds (ps := ["first", "second"]) fun _ _ _ _ _ _ us hl => match us, hl with | [_, _], _ => rfl),
            a_same_octets := f_same_octets,
            d_same_octets := PySem.W.fnOf "same_octets" "same_octets" (defArgs s_same_octets) (defBody s_same_octets) (defScope s_same_octets) .none kV_same_octets dc_same_octets pm_same_octets an_same_octets cd_same_octets ct_same_octets,
            F_same_octets := F_same_octets,
            g_same_octets := PySem.W.mg_of X G n_same_octets,
            b_same_octets := (F_same_octets.binds (ps := ["first", "second"]) fun _ _ _ _ _ _ us hl => match us, hl with | [_, _], _ => rfl),
            a__law_start := f__law_start,
            d__law_start := PySem.W.fnOf "_law_start" "_law_start" (defArgs s__law_start) (defBody s__law_start) (defScope s__law_start) .none kV__law_start dc__law_start pm__law_start an__law_start cd__law_start ct__law_start,
            F__law_start := F__law_start,
            g__law_start := PySem.W.mg_of X G n__law_start,
            b__law_start := (F__law_start.binds (ps := ["script"]) fun _ _ _ _ _ _ us hl => match us, hl with | [_], _ => rfl),
            a__law_draw := f__law_draw,
            d__law_draw := PySem.W.fnOf "_law_draw" "_law_draw" (defArgs s__law_draw) (defBody s__law_draw) (defScope s__law_draw) .none kV__law_draw dc__law_draw pm__law_draw an__law_draw cd__law_draw ct__law_draw,
            F__law_draw := F__law_draw,
            g__law_draw := PySem.W.mg_of X G n__law_draw,
            b__law_draw := (F__law_draw.binds (ps := ["state", "many"]) fun _ _ _ _ _ _ us hl => match us, hl with | [_, _], _ => rfl),
            a__law_octets := f__law_octets,
            d__law_octets := PySem.W.fnOf "_law_octets" "_law_octets" (defArgs s__law_octets) (defBody s__law_octets) (defScope s__law_octets) .none kV__law_octets dc__law_octets pm__law_octets an__law_octets cd__law_octets ct__law_octets,
            F__law_octets := F__law_octets,
            g__law_octets := PySem.W.mg_of X G n__law_octets,
            b__law_octets := (F__law_octets.binds (ps := ["number", "size"]) fun _ _ _ _ _ _ us hl => match us, hl with | [_, _], _ => rfl),
            a__law_sized := f__law_sized,
            d__law_sized := PySem.W.fnOf "_law_sized" "_law_sized" (defArgs s__law_sized) (defBody s__law_sized) (defScope s__law_sized) .none kV__law_sized dc__law_sized pm__law_sized an__law_sized cd__law_sized ct__law_sized,
            F__law_sized := F__law_sized,
            g__law_sized := PySem.W.mg_of X G n__law_sized,
            b__law_sized := (F__law_sized.binds (ps := ["function", "number", "size"]) fun _ _ _ _ _ _ us hl => match us, hl with | [_, _, _], _ => rfl),
            a__law_xored := f__law_xored,
            d__law_xored := PySem.W.fnOf "_law_xored" "_law_xored" (defArgs s__law_xored) (defBody s__law_xored) (defScope s__law_xored) .none kV__law_xored dc__law_xored pm__law_xored an__law_xored cd__law_xored ct__law_xored,
            F__law_xored := F__law_xored,
            g__law_xored := PySem.W.mg_of X G n__law_xored,
            b__law_xored := (F__law_xored.binds (ps := ["first", "second"]) fun _ _ _ _ _ _ us hl => match us, hl with | [_, _], _ => rfl),
            a__law_refused := f__law_refused,
            d__law_refused := PySem.W.fnOf "_law_refused" "_law_refused" (defArgs s__law_refused) (defBody s__law_refused) (defScope s__law_refused) .none kV__law_refused dc__law_refused pm__law_refused an__law_refused cd__law_refused ct__law_refused,
            F__law_refused := F__law_refused,
            g__law_refused := PySem.W.mg_of X G n__law_refused,
            b__law_refused := (F__law_refused.binds (ps := ["value", "good"]) fun _ _ _ _ _ _ us hl => match us, hl with | [_, _], _ => rfl),
            a__law_numbers := f__law_numbers,
            d__law_numbers := PySem.W.fnOf "_law_numbers" "_law_numbers" (defArgs s__law_numbers) (defBody s__law_numbers) (defScope s__law_numbers) .none kV__law_numbers dc__law_numbers pm__law_numbers an__law_numbers cd__law_numbers ct__law_numbers,
            F__law_numbers := F__law_numbers,
            g__law_numbers := PySem.W.mg_of X G n__law_numbers,
            b__law_numbers := (F__law_numbers.binds (ps := ["state"]) fun _ _ _ _ _ _ us hl => match us, hl with | [_], _ => rfl),
            a_law := fa,
            d_law := PySem.W.fnOf "law" "law" (defArgs s_law) (defBody s_law) (defScope s_law) .none kV_law dc_law pm_law an_law cd_law ct_law,
            F_law := F_law,
            g_law := PySem.W.mg_of X G n_law,
            b_law := (F_law.binds (ps := ["script"]) fun _ _ _ _ _ _ us hl => match us, hl with | [_], _ => rfl),
            a_SaltmillError := e_SaltmillError,
            g_SaltmillError := PySem.W.mg_of X G n_SaltmillError,
            xP_SaltmillError := x_SaltmillError,
            kP_SaltmillError := k_SaltmillError,
            bP_SaltmillError := b_SaltmillError,
            tP_SaltmillError := t_SaltmillError,
            hd_SaltmillError := h_SaltmillError,
            a_OctetError := e_OctetError,
            g_OctetError := PySem.W.mg_of X G n_OctetError,
            xP_OctetError := x_OctetError,
            kP_OctetError := k_OctetError,
            bP_OctetError := b_OctetError,
            tP_OctetError := t_OctetError,
            hd_OctetError := h_OctetError,
            a_LengthError := e_LengthError,
            g_LengthError := PySem.W.mg_of X G n_LengthError,
            xP_LengthError := x_LengthError,
            kP_LengthError := k_LengthError,
            bP_LengthError := b_LengthError,
            tP_LengthError := t_LengthError,
            hd_LengthError := h_LengthError,
            sub_OctetError_SaltmillError := sub_OctetError_SaltmillError,
            sub_LengthError_SaltmillError := sub_LengthError_SaltmillError,
            sub_OctetError_LengthError := sub_OctetError_LengthError,
            sub_LengthError_LengthError := sub_LengthError_LengthError,
            sub_OctetError_OctetError := sub_OctetError_OctetError,
            sub_LengthError_OctetError := sub_LengthError_OctetError,
            X_LengthError := ⟨xg_LengthError, xk_LengthError, b_LengthError, h_LengthError, xa_LengthError, xn, xt, xm_LengthError⟩,
            X_OctetError := ⟨xg_OctetError, xk_OctetError, b_OctetError, h_OctetError, xa_OctetError, xn, xt, xm_OctetError⟩,
            t_MOST_OCTETS := t_MOST_OCTETS,
            g_MOST_OCTETS := PySem.W.mg_of X G n_MOST_OCTETS,
            t_ALPHABET := t_ALPHABET,
            g_ALPHABET := PySem.W.mg_of X G n_ALPHABET,
            m_abs := PySem.W.mg_none_of X G m_abs,
            m_all := PySem.W.mg_none_of X G m_all,
            m_bool := PySem.W.mg_none_of X G m_bool,
            m_int := PySem.W.mg_none_of X G m_int,
            m_isinstance := PySem.W.mg_none_of X G m_isinstance,
            m_len := PySem.W.mg_none_of X G m_len,
            m_list := PySem.W.mg_none_of X G m_list,
            m_range := PySem.W.mg_none_of X G m_range,
            m_tuple := PySem.W.mg_none_of X G m_tuple,
            m_zip := PySem.W.mg_none_of X G m_zip }, rfl, fun s u => .of_eq rfl, SM.tabIn_of n_is_octets l_is_octets rfl t_is_octets u_is_octets, v_is_octets⟩
theorem fin {l : PySem.W.OpenLaw} {q : Program} {w : World} {K : PySem.W.Frag} {h : Heap} {mg : Str → Option Value} {fa : Addr} {d : DefRec}
    (tab : ∀ (y : Str) (c P : Addr) (e : DefRec), (recsOf q).find? (fun e => e.name == y) = some e → PySem.W.tabIn K y = some (c, P) → PySem.W.CodeHd h c P ∧ h.get? P = some { cls := .none, data := .fields #[] })
    (hrec : (recsOf q).find? (fun e => e.name == ("is_octets" : Str)) = some d)
    (t : ∃ T : Txt K mg, T.a_law = fa ∧ (∀ (s : Shared) (u : Value), BindsTo s T.d_law ⟨[u], []⟩ [("script", u)]) ∧ PySem.W.tabIn K "is_octets" = some (T.c_is_octets, T.P_is_octets) ∧ K.lookup T.P_is_octets = none) :
    LamX.LawAtS l w K (L2.CX l.prog w) 16 63 "script" mg fa h := by
  obtain ⟨T, rfl, hb, ht, hn⟩ := t
  obtain ⟨t1, t2⟩ := tab _ _ _ _ hrec ht
  refine ⟨T.d_law, [(T.c_is_octets, T.P_is_octets)], spLaw K T.P_is_octets, fun p hp => ?_, fun p hp => ?_, fun p hp => ?_, hb, fun H a ns hl _ hH hS => ?_, fun base hK hns TB => ?_⟩
  · cases List.mem_singleton.mp hp
    exact t2
  · cases List.mem_singleton.mp hp
    exact hn
  · cases List.mem_singleton.mp hp
    exact t1
  · exact ⟨a, ns, rfl, hS, hl, ⟨#[], hH _ (List.mem_singleton.mpr rfl), (show TriplesOk [] from True.intro)⟩, fun _ => rfl⟩
  · have TB1 := TB _ (List.mem_singleton.mpr rfl)
    have gIs := ok_is_octets (P := l.prog) (w := w) T ⟨TB1.1, TB1.2, TB1.3⟩
    have gCk := ok_check_octets T gIs
    have gLittle := ok_little (P := l.prog) (w := w) (base := base) T
    have gBig := ok_big T gLittle
    have gFromBig := ok_from_big T gCk
    have gFromLittle := ok_from_little T gCk gFromBig
    have gXor := ok_xor T gCk
    have gSame := ok_same_octets T gCk
    have gHex := ok_to_hex T gCk
    have g64 := ok_to_base64 T gCk
    have gDraw := ok_law_draw (P := l.prog) (w := w) (base := base) T
    have gStart := ok_law_start (P := l.prog) (w := w) (base := base) T
    have gOct := ok_law_octets (P := l.prog) (w := w) (base := base) T
    have gSized := ok_law_sized T gBig gLittle
    have gXored := ok_law_xored T gXor
    have gRefused := ok_law_refused T gFromBig gFromLittle gHex g64 gXor gSame
    have gNumbers := ok_law_numbers T gDraw gOct gSized gFromBig gFromLittle
    exact ok_law T gDraw gStart gNumbers gXored gSame gIs gRefused
end SK
open PySem PySem.W PyProof.Rows in
set_option maxRecDepth 100000 in
set_option maxHeartbeats 0 in
theorem PySem.Challenge.cw_saltmill_k02_numbers_of_octets_holds : PySem.Challenge.rw_saltmill_k02_numbers_of_octets.Holds := by
  w_on; o_law; k_head; (case hw => w_witness2)
  k_fill
  refine SM.walkTab (l := PySem.Challenge.rw_saltmill_k02_numbers_of_octets) (n := 63) (k := 16) (x := "script") rfl (by decide) rfl ⟨rfl, by decide, by decide⟩ (fun w h Y => PySem.W.kIn_of Y) ?F
  case F =>
    intro w mg fa h KX G hmg tab
    refine' SK.fin tab ?rec (SK.mkT KX G hmg ?q_n_is_octet ?q_l_is_octet ?q_r_is_octet ?q_k_is_octet ?q_n_is_octets ?q_l_is_octets ?q_r_is_octets ?q_k_is_octets ?q_t_is_octets ?q_u_is_octets ?q_v_is_octets ?q_n_check_octets ?q_l_check_octets ?q_r_check_octets ?q_k_check_octets ?q_n_to_hex ?q_l_to_hex ?q_r_to_hex ?q_k_to_hex ?q_n_to_base64 ?q_l_to_base64 ?q_r_to_base64 ?q_k_to_base64 ?q_n__group_text ?q_l__group_text ?q_r__group_text ?q_k__group_text ?q_n_big ?q_l_big ?q_r_big ?q_k_big ?q_n_little ?q_l_little ?q_r_little ?q_k_little ?q_n_from_big ?q_l_from_big ?q_r_from_big ?q_k_from_big ?q_n_from_little ?q_l_from_little ?q_r_from_little ?q_k_from_little ?q_n_xor ?q_l_xor ?q_r_xor ?q_k_xor ?q_n_same_octets ?q_l_same_octets ?q_r_same_octets ?q_k_same_octets ?q_n__law_start ?q_l__law_start ?q_r__law_start ?q_k__law_start ?q_n__law_draw ?q_l__law_draw ?q_r__law_draw ?q_k__law_draw ?q_n__law_octets ?q_l__law_octets ?q_r__law_octets ?q_k__law_octets ?q_n__law_sized ?q_l__law_sized ?q_r__law_sized ?q_k__law_sized ?q_n__law_xored ?q_l__law_xored ?q_r__law_xored ?q_k__law_xored ?q_n__law_refused ?q_l__law_refused ?q_r__law_refused ?q_k__law_refused ?q_n__law_numbers ?q_l__law_numbers ?q_r__law_numbers ?q_k__law_numbers ?q_n_law ?q_l_law ?q_r_law ?q_k_law ?q_n_SaltmillError ?q_x_SaltmillError ?q_k_SaltmillError ?q_b_SaltmillError ?q_t_SaltmillError ?q_h_SaltmillError ?q_n_OctetError ?q_x_OctetError ?q_k_OctetError ?q_b_OctetError ?q_t_OctetError ?q_h_OctetError ?q_n_LengthError ?q_x_LengthError ?q_k_LengthError ?q_b_LengthError ?q_t_LengthError ?q_h_LengthError ?q_sub_OctetError_SaltmillError ?q_sub_LengthError_SaltmillError ?q_sub_OctetError_LengthError ?q_sub_LengthError_LengthError ?q_sub_OctetError_OctetError ?q_sub_LengthError_OctetError ?q_xg_LengthError ?q_xk_LengthError ?q_xa_LengthError ?q_xm_LengthError ?q_xg_OctetError ?q_xk_OctetError ?q_xa_OctetError ?q_xm_OctetError ?q_xn ?q_xt ?q_n_MOST_OCTETS ?q_n_ALPHABET ?q_m_abs ?q_m_all ?q_m_bool ?q_m_int ?q_m_isinstance ?q_m_len ?q_m_list ?q_m_range ?q_m_tuple ?q_m_zip)
    (case rec => exact rfl)
    (case q_n_is_octet => k_is)
    (case q_l_is_octet => k_is)
    (case q_r_is_octet => k_is)
    (case q_k_is_octet => k_is)
    (case q_n_is_octets => k_is)
    (case q_l_is_octets => k_is)
    (case q_r_is_octets => k_is)
    (case q_k_is_octets => k_is)
    (case q_t_is_octets => k_is)
    (case q_u_is_octets => exact rfl)
    (case q_v_is_octets => kernel_rfl)
    (case q_n_check_octets => k_is)
    (case q_l_check_octets => k_is)
    (case q_r_check_octets => k_is)
    (case q_k_check_octets => k_is)
    (case q_n_to_hex => k_is)
    (case q_l_to_hex => k_is)
    (case q_r_to_hex => k_is)
    (case q_k_to_hex => k_is)
    (case q_n_to_base64 => k_is)
    (case q_l_to_base64 => k_is)
    (case q_r_to_base64 => k_is)
    (case q_k_to_base64 => k_is)
    (case q_n__group_text => k_is)
    (case q_l__group_text => k_is)
    (case q_r__group_text => k_is)
    (case q_k__group_text => k_is)
    (case q_n_big => k_is)
    (case q_l_big => k_is)
    (case q_r_big => k_is)
    (case q_k_big => k_is)
    (case q_n_little => k_is)
    (case q_l_little => k_is)
    (case q_r_little => k_is)
    (case q_k_little => k_is)
    (case q_n_from_big => k_is)
    (case q_l_from_big => k_is)
    (case q_r_from_big => k_is)
    (case q_k_from_big => k_is)
    (case q_n_from_little => k_is)
    (case q_l_from_little => k_is)
    (case q_r_from_little => k_is)
    (case q_k_from_little => k_is)
    (case q_n_xor => k_is)
    (case q_l_xor => k_is)
    (case q_r_xor => k_is)
    (case q_k_xor => k_is)
    (case q_n_same_octets => k_is)
    (case q_l_same_octets => k_is)
    (case q_r_same_octets => k_is)
    (case q_k_same_octets => k_is)
    (case q_n__law_start => k_is)
    (case q_l__law_start => k_is)
    (case q_r__law_start => k_is)
    (case q_k__law_start => k_is)
    (case q_n__law_draw => k_is)
    (case q_l__law_draw => k_is)
    (case q_r__law_draw => k_is)
    (case q_k__law_draw => k_is)
    (case q_n__law_octets => k_is)
    (case q_l__law_octets => k_is)
    (case q_r__law_octets => k_is)
    (case q_k__law_octets => k_is)
    (case q_n__law_sized => k_is)
    (case q_l__law_sized => k_is)
    (case q_r__law_sized => k_is)
    (case q_k__law_sized => k_is)
    (case q_n__law_xored => k_is)
    (case q_l__law_xored => k_is)
    (case q_r__law_xored => k_is)
    (case q_k__law_xored => k_is)
    (case q_n__law_refused => k_is)
    (case q_l__law_refused => k_is)
    (case q_r__law_refused => k_is)
    (case q_k__law_refused => k_is)
    (case q_n__law_numbers => k_is)
    (case q_l__law_numbers => k_is)
    (case q_r__law_numbers => k_is)
    (case q_k__law_numbers => k_is)
    (case q_n_law => k_is)
    (case q_l_law => k_is)
    (case q_r_law => k_is)
    (case q_k_law => k_is)
    (case q_n_SaltmillError => k_is)
    (case q_x_SaltmillError => kernel_rfl)
    (case q_k_SaltmillError => k_is)
    (case q_b_SaltmillError => k_is)
    (case q_t_SaltmillError => k_is)
    (case q_h_SaltmillError => k_is)
    (case q_n_OctetError => k_is)
    (case q_x_OctetError => kernel_rfl)
    (case q_k_OctetError => k_is)
    (case q_b_OctetError => k_is)
    (case q_t_OctetError => k_is)
    (case q_h_OctetError => k_is)
    (case q_n_LengthError => k_is)
    (case q_x_LengthError => kernel_rfl)
    (case q_k_LengthError => k_is)
    (case q_b_LengthError => k_is)
    (case q_t_LengthError => k_is)
    (case q_h_LengthError => k_is)
    (case q_sub_OctetError_SaltmillError => k_is)
    (case q_sub_LengthError_SaltmillError => k_is)
    (case q_sub_OctetError_LengthError => k_is)
    (case q_sub_LengthError_LengthError => k_is)
    (case q_sub_OctetError_OctetError => k_is)
    (case q_sub_LengthError_OctetError => k_is)
    (case q_xg_LengthError => k_is)
    (case q_xk_LengthError => k_is)
    (case q_xa_LengthError => k_is)
    (case q_xm_LengthError => k_is)
    (case q_xg_OctetError => k_is)
    (case q_xk_OctetError => k_is)
    (case q_xa_OctetError => k_is)
    (case q_xm_OctetError => k_is)
    (case q_xn => k_is)
    (case q_xt => k_is)
    (case q_n_MOST_OCTETS => k_is)
    (case q_n_ALPHABET => k_is)
    (case q_m_abs => k_is)
    (case q_m_all => k_is)
    (case q_m_bool => k_is)
    (case q_m_int => k_is)
    (case q_m_isinstance => k_is)
    (case q_m_len => k_is)
    (case q_m_list => k_is)
    (case q_m_range => k_is)
    (case q_m_tuple => k_is)
    (case q_m_zip => k_is)
